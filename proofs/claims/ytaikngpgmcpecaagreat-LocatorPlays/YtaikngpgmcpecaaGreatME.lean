import Derived.Test.YtaikngpgmcpecaaGreatMD
namespace Go.Proofs.YtaikngpgmcpecaaGreat
open Go.RowKit
section
variable {w : World} {ρ : Nat → Nat} {D : Nat → Prop} {pb wb mb qb rb : Nat} {s : Ws} {m : Mm}
set_option maxHeartbeats 1600000 in
set_option maxRecDepth 1000000 in
theorem swaps_any (h : PP w ρ D wb mb qb rb s m) (hp : PBl w ρ D pb mb wb rb qb) (hlog : (m.log.length + 1) * 56 ≤ 140737488355328) (ok oa ob1 oc on ox : Int) (ot os : Bool) : Calls Tryz.prog 31 #[.pointer (some ⟨pb, 0, none⟩), .agg #[.int .i64 ok, .int .i64 oa, .int .i64 ob1, .int .i64 oc, .int .i64 on, .int .i64 ox, .bool ot, .bool os]] w fun e w' => e = .returned (.bool true) ∧ PW w ρ D wb mb qb rb m w' := by
  obtain ⟨w0, hw0⟩ : ∃ x, x = w.alloc (.cells #[.int .i64 ok, .int .i64 oa, .int .i64 ob1, .int .i64 oc, .int .i64 on, .int .i64 ox, .bool ot, .bool os] 39) := ⟨_, rfl⟩
  have k0 : Keeps (fun _ => False) w w0 := by rw [hw0]; exact (Keeps.refl _ w).alloc _
  have h0 := h.new k0
  have hob : OBx w0 ρ D w.heap.size ⟨ok, oa, ob1, oc, ⟨on, ox, ot⟩, os⟩ := h.box ⟨ok, oa, ob1, oc, ⟨on, ox, ot⟩, os⟩ hw0
  have hpb := hp.lv (Lv.new (ρ := ρ) (D := D) k0)
  have HOB : Hid (OBx w0 ρ D w.heap.size ⟨ok, oa, ob1, oc, ⟨on, ox, ot⟩, os⟩) := hob
  have HPB : Hid (PBl w0 ρ D pb mb wb rb qb) := hpb
  have HW0 : Hid (w0 = w.alloc (.cells #[.int .i64 ok, .int .i64 oa, .int .i64 ob1, .int .i64 oc, .int .i64 on, .int .i64 ox, .bool ot, .bool os] 39)) := hw0
  have hnu := fun W x => num_of W x
  have p0 := hpb.c0
  have p1 := hpb.c1
  have p2 := hpb.c2
  have p3 := hpb.c3
  have pz := hpb.z
  have pd := hpb.d
  have o0 := hob.c0
  have o1 := hob.c1
  have o2 := hob.c2
  have o3 := hob.c3
  have o4 := hob.c4
  have o5 := hob.c5
  have o6 := hob.c6
  have o7 := hob.c7
  have oz := hob.z
  have od := hob.d
  clear hw0 hob hpb h hp
  dsimp only at o0 o1 o2 o3 o4 o5 o6 o7
  by_cases h9 : ok = 9
  · subst h9
    have tw := tw_acq h0 hlog (o := ⟨9, oa, ob1, oc, ⟨on, ox, ot⟩, os⟩) rfl
    obtain ⟨hp1, hp2⟩ := tw
    dsimp only at hp1 hp2
    have h0c := h0
    clear h0
    go_enter Tryz.func31, Tryz.ntmps31
    refine wp_seq_k (fun KK hKK => ?_)
    have hKH : Hid _ := hKK
    clear hKK
    go_wp2_with fail
    refine hKH.out _ _ ?_
    clear hKH KK
    rw [← HW0.out]
    clear HW0
    go_wp2_with fail
    go_region_held3 (fun w' => w'.cell? ⟨pb, 1, none⟩ = some (.pointer (some ⟨wb, 0, none⟩)) ∧ w'.cell? ⟨w.heap.size, 1, none⟩ = some (.int .i64 oa) ∧ w'.cell? ⟨w.heap.size, 2, none⟩ = some (.int .i64 ob1) ∧ w'.cell? ⟨w.heap.size, 3, none⟩ = some (.int .i64 oc)) (go_keep) ((go_at_call 20; (with_reducible refine (hp1 _ (Keeps.refl _ w0).drew).mono ?_); rintro e w1 ⟨er, dd, ρ1, s1, m1, rfl, hd, hh, lv⟩; have qp := lv.cell (p := ⟨pb, 1, none⟩) (v := .pointer (some ⟨wb, 0, none⟩)) (by simpa using p1) pz pd; have qo1 := lv.cell (p := ⟨w.heap.size, 1, none⟩) (v := .int .i64 oa) (by simpa using o1) oz od; have qo2 := lv.cell (p := ⟨w.heap.size, 2, none⟩) (v := .int .i64 ob1) (by simpa using o2) oz od; have qo3 := lv.cell (p := ⟨w.heap.size, 3, none⟩) (v := .int .i64 oc) (by simpa using o3) oz od))
    have lv1 : Lv w0 w1 ρ ρ1 D D := (Lv.new (Keeps.refl _ w0).drew).trans lv
    have pbl1 := HPB.out.lv lv1
    have obx1 := HOB.out.lv lv1
    clear lv p0 p1 p2 p3 pz pd o0 o1 o2 o3 o4 o5 o6 o7 oz od hp1
    have p0 := pbl1.c0
    have p1 := pbl1.c1
    have p2 := pbl1.c2
    have p3 := pbl1.c3
    have pz := pbl1.z
    have pd := pbl1.d
    have o0 := obx1.c0
    have o1 := obx1.c1
    have o2 := obx1.c2
    have o3 := obx1.c3
    have o4 := obx1.c4
    have o5 := obx1.c5
    have o6 := obx1.c6
    have o7 := obx1.c7
    have oz := obx1.z
    have od := obx1.d
    clear pbl1 obx1
    go_wp2_with fail
    go_region_held3 (fun w' => w'.cell? ⟨pb, 3, none⟩ = some (.pointer (some ⟨qb, 0, none⟩)) ∧ w'.cell? ⟨w.heap.size, 1, none⟩ = some (.int .i64 oa) ∧ w'.cell? ⟨w.heap.size, 2, none⟩ = some (.int .i64 ob1) ∧ w'.cell? ⟨w.heap.size, 3, none⟩ = some (.int .i64 oc)) (go_keep) ((go_at_call 73; (with_reducible refine (hp2 _ ρ1 s1 m1 er dd hd (hh.new (Keeps.refl _ w1).drew)).mono ?_); rintro e w2 ⟨rfl, D2, hpp, lv⟩; have qp := lv.cell (p := ⟨pb, 3, none⟩) (v := .pointer (some ⟨qb, 0, none⟩)) (by simpa using p3) pz pd; have qo1 := lv.cell (p := ⟨w.heap.size, 1, none⟩) (v := .int .i64 oa) (by simpa using o1) oz od; have qo2 := lv.cell (p := ⟨w.heap.size, 2, none⟩) (v := .int .i64 ob1) (by simpa using o2) oz od; have qo3 := lv.cell (p := ⟨w.heap.size, 3, none⟩) (v := .int .i64 oc) (by simpa using o3) oz od))
    have lv2 : Lv w0 w2 ρ ρ1 D D2 := (lv1.trans (Lv.new (Keeps.refl _ w1).drew)).trans lv
    have HPP : Hid (PP w2 ρ1 D2 wb mb qb rb _ m1) := hpp
    have HLV : Hid (Lv w w2 ρ ρ1 D D2) := (Lv.new k0).trans lv2
    have HLG : Hid (lg m1 = lg m) := hd.lg
    clear lv hpp lv1 lv2 hp2 hh p0 p1 p2 p3 pz pd o0 o1 o2 o3 o4 o5 o6 o7 oz od
    go_wp2_with (go_at_call 15; refine (hnu _ _).mono ?_; rintro e wn ⟨rfl, hwn⟩; rw [← hwn]; clear hwn wn)
    go_ret
    exact ⟨rfl, ρ1, D2, _, m1, HPP.out, HLV.out, HLG.out⟩
  · have n9 : (ok == 9) = false := by simp; omega
    by_cases h11 : ok = 11
    · subst h11
      have tw := tw_kill h0 hlog (o := ⟨11, oa, ob1, oc, ⟨on, ox, ot⟩, os⟩) rfl
      obtain ⟨hp1, hp2⟩ := tw
      dsimp only at hp1 hp2
      have h0c := h0
      clear h0
      go_enter Tryz.func31, Tryz.ntmps31
      refine wp_seq_k (fun KK hKK => ?_)
      have hKH : Hid _ := hKK
      clear hKK
      go_wp2_with fail
      refine hKH.out _ _ ?_
      clear hKH KK
      rw [← HW0.out]
      clear HW0
      go_wp2_with fail
      go_region_held3 (fun w' => w'.cell? ⟨pb, 1, none⟩ = some (.pointer (some ⟨wb, 0, none⟩)) ∧ w'.cell? ⟨w.heap.size, 1, none⟩ = some (.int .i64 oa)) (go_keep) ((go_at_call 74; (with_reducible refine (hp1 _ (Keeps.refl _ w0).drew).mono ?_); rintro e w1 ⟨er, dd, ρ1, s1, m1, rfl, hd, hh, lv⟩; have qp := lv.cell (p := ⟨pb, 1, none⟩) (v := .pointer (some ⟨wb, 0, none⟩)) (by simpa using p1) pz pd; have qo1 := lv.cell (p := ⟨w.heap.size, 1, none⟩) (v := .int .i64 oa) (by simpa using o1) oz od))
      have lv1 : Lv w0 w1 ρ ρ1 D D := (Lv.new (Keeps.refl _ w0).drew).trans lv
      have pbl1 := HPB.out.lv lv1
      have obx1 := HOB.out.lv lv1
      clear lv p0 p1 p2 p3 pz pd o0 o1 o2 o3 o4 o5 o6 o7 oz od hp1
      have p0 := pbl1.c0
      have p1 := pbl1.c1
      have p2 := pbl1.c2
      have p3 := pbl1.c3
      have pz := pbl1.z
      have pd := pbl1.d
      have o0 := obx1.c0
      have o1 := obx1.c1
      have o2 := obx1.c2
      have o3 := obx1.c3
      have o4 := obx1.c4
      have o5 := obx1.c5
      have o6 := obx1.c6
      have o7 := obx1.c7
      have oz := obx1.z
      have od := obx1.d
      clear pbl1 obx1
      go_wp2_with fail
      go_region_held3 (fun w' => w'.cell? ⟨pb, 3, none⟩ = some (.pointer (some ⟨qb, 0, none⟩)) ∧ w'.cell? ⟨w.heap.size, 1, none⟩ = some (.int .i64 oa)) (go_keep) ((go_at_call 75; (with_reducible refine (hp2 _ ρ1 s1 m1 er dd hd (hh.new (Keeps.refl _ w1).drew)).mono ?_); rintro e w2 ⟨rfl, D2, hpp, lv⟩; have qp := lv.cell (p := ⟨pb, 3, none⟩) (v := .pointer (some ⟨qb, 0, none⟩)) (by simpa using p3) pz pd; have qo1 := lv.cell (p := ⟨w.heap.size, 1, none⟩) (v := .int .i64 oa) (by simpa using o1) oz od))
      have lv2 : Lv w0 w2 ρ ρ1 D D2 := (lv1.trans (Lv.new (Keeps.refl _ w1).drew)).trans lv
      have HPP : Hid (PP w2 ρ1 D2 wb mb qb rb _ m1) := hpp
      have HLV : Hid (Lv w w2 ρ ρ1 D D2) := (Lv.new k0).trans lv2
      have HLG : Hid (lg m1 = lg m) := hd.lg
      clear lv hpp lv1 lv2 hp2 hh p0 p1 p2 p3 pz pd o0 o1 o2 o3 o4 o5 o6 o7 oz od
      go_wp2_with (go_at_call 15; refine (hnu _ _).mono ?_; rintro e wn ⟨rfl, hwn⟩; rw [← hwn]; clear hwn wn)
      go_ret
      exact ⟨rfl, ρ1, D2, _, m1, HPP.out, HLV.out, HLG.out⟩
    · have n11 : (ok == 11) = false := by simp; omega
      by_cases h12 : ok = 12
      · subst h12
        have tw := tw_com h0 hlog (o := ⟨12, oa, ob1, oc, ⟨on, ox, ot⟩, os⟩) rfl
        obtain ⟨hp1, hp2⟩ := tw
        dsimp only at hp1 hp2
        have h0c := h0
        clear h0
        go_enter Tryz.func31, Tryz.ntmps31
        refine wp_seq_k (fun KK hKK => ?_)
        have hKH : Hid _ := hKK
        clear hKK
        go_wp2_with fail
        refine hKH.out _ _ ?_
        clear hKH KK
        rw [← HW0.out]
        clear HW0
        go_wp2_with fail
        go_region_held3 (fun w' => w'.cell? ⟨pb, 1, none⟩ = some (.pointer (some ⟨wb, 0, none⟩)) ∧ w'.cell? ⟨w.heap.size, 1, none⟩ = some (.int .i64 oa)) (go_keep) ((go_at_call 21; (with_reducible refine (hp1 _ (Keeps.refl _ w0).drew).mono ?_); rintro e w1 ⟨er, dd, ρ1, s1, m1, rfl, hd, hh, lv⟩; have qp := lv.cell (p := ⟨pb, 1, none⟩) (v := .pointer (some ⟨wb, 0, none⟩)) (by simpa using p1) pz pd; have qo1 := lv.cell (p := ⟨w.heap.size, 1, none⟩) (v := .int .i64 oa) (by simpa using o1) oz od))
        have lv1 : Lv w0 w1 ρ ρ1 D D := (Lv.new (Keeps.refl _ w0).drew).trans lv
        have pbl1 := HPB.out.lv lv1
        have obx1 := HOB.out.lv lv1
        clear lv p0 p1 p2 p3 pz pd o0 o1 o2 o3 o4 o5 o6 o7 oz od hp1
        have p0 := pbl1.c0
        have p1 := pbl1.c1
        have p2 := pbl1.c2
        have p3 := pbl1.c3
        have pz := pbl1.z
        have pd := pbl1.d
        have o0 := obx1.c0
        have o1 := obx1.c1
        have o2 := obx1.c2
        have o3 := obx1.c3
        have o4 := obx1.c4
        have o5 := obx1.c5
        have o6 := obx1.c6
        have o7 := obx1.c7
        have oz := obx1.z
        have od := obx1.d
        clear pbl1 obx1
        go_wp2_with fail
        go_region_held3 (fun w' => w'.cell? ⟨pb, 3, none⟩ = some (.pointer (some ⟨qb, 0, none⟩)) ∧ w'.cell? ⟨w.heap.size, 1, none⟩ = some (.int .i64 oa)) (go_keep) ((go_at_call 76; (with_reducible refine (hp2 _ ρ1 s1 m1 er dd hd (hh.new (Keeps.refl _ w1).drew)).mono ?_); rintro e w2 ⟨rfl, D2, hpp, lv⟩; have qp := lv.cell (p := ⟨pb, 3, none⟩) (v := .pointer (some ⟨qb, 0, none⟩)) (by simpa using p3) pz pd; have qo1 := lv.cell (p := ⟨w.heap.size, 1, none⟩) (v := .int .i64 oa) (by simpa using o1) oz od))
        have lv2 : Lv w0 w2 ρ ρ1 D D2 := (lv1.trans (Lv.new (Keeps.refl _ w1).drew)).trans lv
        have HPP : Hid (PP w2 ρ1 D2 wb mb qb rb _ m1) := hpp
        have HLV : Hid (Lv w w2 ρ ρ1 D D2) := (Lv.new k0).trans lv2
        have HLG : Hid (lg m1 = lg m) := hd.lg
        clear lv hpp lv1 lv2 hp2 hh p0 p1 p2 p3 pz pd o0 o1 o2 o3 o4 o5 o6 o7 oz od
        go_wp2_with (go_at_call 15; refine (hnu _ _).mono ?_; rintro e wn ⟨rfl, hwn⟩; rw [← hwn]; clear hwn wn)
        go_ret
        exact ⟨rfl, ρ1, D2, _, m1, HPP.out, HLV.out, HLG.out⟩
      · have n12 : (ok == 12) = false := by simp; omega
        by_cases h13 : ok = 13
        · subst h13
          have tw := tw_flag h0 hlog (o := ⟨13, oa, ob1, oc, ⟨on, ox, ot⟩, os⟩) rfl
          obtain ⟨hp1, hp2⟩ := tw
          dsimp only at hp1 hp2
          have h0c := h0
          clear h0
          go_enter Tryz.func31, Tryz.ntmps31
          refine wp_seq_k (fun KK hKK => ?_)
          have hKH : Hid _ := hKK
          clear hKK
          go_wp2_with fail
          refine hKH.out _ _ ?_
          clear hKH KK
          rw [← HW0.out]
          clear HW0
          go_wp2_with fail
          go_region_held3 (fun w' => w'.cell? ⟨pb, 1, none⟩ = some (.pointer (some ⟨wb, 0, none⟩)) ∧ w'.cell? ⟨w.heap.size, 1, none⟩ = some (.int .i64 oa)) (go_keep) ((go_at_call 77; (with_reducible refine (hp1 _ (Keeps.refl _ w0).drew).mono ?_); rintro e w1 ⟨er, dd, ρ1, s1, m1, rfl, hd, hh, lv⟩; have qp := lv.cell (p := ⟨pb, 1, none⟩) (v := .pointer (some ⟨wb, 0, none⟩)) (by simpa using p1) pz pd; have qo1 := lv.cell (p := ⟨w.heap.size, 1, none⟩) (v := .int .i64 oa) (by simpa using o1) oz od))
          have lv1 : Lv w0 w1 ρ ρ1 D D := (Lv.new (Keeps.refl _ w0).drew).trans lv
          have pbl1 := HPB.out.lv lv1
          have obx1 := HOB.out.lv lv1
          clear lv p0 p1 p2 p3 pz pd o0 o1 o2 o3 o4 o5 o6 o7 oz od hp1
          have p0 := pbl1.c0
          have p1 := pbl1.c1
          have p2 := pbl1.c2
          have p3 := pbl1.c3
          have pz := pbl1.z
          have pd := pbl1.d
          have o0 := obx1.c0
          have o1 := obx1.c1
          have o2 := obx1.c2
          have o3 := obx1.c3
          have o4 := obx1.c4
          have o5 := obx1.c5
          have o6 := obx1.c6
          have o7 := obx1.c7
          have oz := obx1.z
          have od := obx1.d
          clear pbl1 obx1
          go_wp2_with fail
          go_region_held3 (fun w' => w'.cell? ⟨pb, 3, none⟩ = some (.pointer (some ⟨qb, 0, none⟩)) ∧ w'.cell? ⟨w.heap.size, 1, none⟩ = some (.int .i64 oa)) (go_keep) ((go_at_call 78; (with_reducible refine (hp2 _ ρ1 s1 m1 er dd hd (hh.new (Keeps.refl _ w1).drew)).mono ?_); rintro e w2 ⟨rfl, D2, hpp, lv⟩; have qp := lv.cell (p := ⟨pb, 3, none⟩) (v := .pointer (some ⟨qb, 0, none⟩)) (by simpa using p3) pz pd; have qo1 := lv.cell (p := ⟨w.heap.size, 1, none⟩) (v := .int .i64 oa) (by simpa using o1) oz od))
          have lv2 : Lv w0 w2 ρ ρ1 D D2 := (lv1.trans (Lv.new (Keeps.refl _ w1).drew)).trans lv
          have HPP : Hid (PP w2 ρ1 D2 wb mb qb rb _ m1) := hpp
          have HLV : Hid (Lv w w2 ρ ρ1 D D2) := (Lv.new k0).trans lv2
          have HLG : Hid (lg m1 = lg m) := hd.lg
          clear lv hpp lv1 lv2 hp2 hh p0 p1 p2 p3 pz pd o0 o1 o2 o3 o4 o5 o6 o7 oz od
          go_wp2_with (go_at_call 15; refine (hnu _ _).mono ?_; rintro e wn ⟨rfl, hwn⟩; rw [← hwn]; clear hwn wn)
          go_ret
          exact ⟨rfl, ρ1, D2, _, m1, HPP.out, HLV.out, HLG.out⟩
        · have n13 : (ok == 13) = false := by simp; omega
          by_cases h14 : ok = 14
          · subst h14
            have tw := tw_mark h0 hlog (o := ⟨14, oa, ob1, oc, ⟨on, ox, ot⟩, os⟩) rfl
            obtain ⟨hp1, hp2⟩ := tw
            dsimp only at hp1 hp2
            have h0c := h0
            clear h0
            go_enter Tryz.func31, Tryz.ntmps31
            refine wp_seq_k (fun KK hKK => ?_)
            have hKH : Hid _ := hKK
            clear hKK
            go_wp2_with fail
            refine hKH.out _ _ ?_
            clear hKH KK
            rw [← HW0.out]
            clear HW0
            go_wp2_with fail
            go_region_held3 (fun w' => w'.cell? ⟨pb, 1, none⟩ = some (.pointer (some ⟨wb, 0, none⟩)) ∧ w'.cell? ⟨w.heap.size, 1, none⟩ = some (.int .i64 oa) ∧ w'.cell? ⟨w.heap.size, 6, none⟩ = some (.bool ot)) (go_keep) ((go_at_call 79; (with_reducible refine (hp1 _ (Keeps.refl _ w0).drew).mono ?_); rintro e w1 ⟨er, dd, ρ1, s1, m1, rfl, hd, hh, lv⟩; have qp := lv.cell (p := ⟨pb, 1, none⟩) (v := .pointer (some ⟨wb, 0, none⟩)) (by simpa using p1) pz pd; have qo1 := lv.cell (p := ⟨w.heap.size, 1, none⟩) (v := .int .i64 oa) (by simpa using o1) oz od; have qo6 := lv.cell (p := ⟨w.heap.size, 6, none⟩) (v := .bool ot) (by simpa using o6) oz od))
            have lv1 : Lv w0 w1 ρ ρ1 D D := (Lv.new (Keeps.refl _ w0).drew).trans lv
            have pbl1 := HPB.out.lv lv1
            have obx1 := HOB.out.lv lv1
            clear lv p0 p1 p2 p3 pz pd o0 o1 o2 o3 o4 o5 o6 o7 oz od hp1
            have p0 := pbl1.c0
            have p1 := pbl1.c1
            have p2 := pbl1.c2
            have p3 := pbl1.c3
            have pz := pbl1.z
            have pd := pbl1.d
            have o0 := obx1.c0
            have o1 := obx1.c1
            have o2 := obx1.c2
            have o3 := obx1.c3
            have o4 := obx1.c4
            have o5 := obx1.c5
            have o6 := obx1.c6
            have o7 := obx1.c7
            have oz := obx1.z
            have od := obx1.d
            clear pbl1 obx1
            go_wp2_with fail
            go_region_held3 (fun w' => w'.cell? ⟨pb, 3, none⟩ = some (.pointer (some ⟨qb, 0, none⟩)) ∧ w'.cell? ⟨w.heap.size, 1, none⟩ = some (.int .i64 oa) ∧ w'.cell? ⟨w.heap.size, 6, none⟩ = some (.bool ot)) (go_keep) ((go_at_call 80; (with_reducible refine (hp2 _ ρ1 s1 m1 er dd hd (hh.new (Keeps.refl _ w1).drew)).mono ?_); rintro e w2 ⟨rfl, D2, hpp, lv⟩; have qp := lv.cell (p := ⟨pb, 3, none⟩) (v := .pointer (some ⟨qb, 0, none⟩)) (by simpa using p3) pz pd; have qo1 := lv.cell (p := ⟨w.heap.size, 1, none⟩) (v := .int .i64 oa) (by simpa using o1) oz od; have qo6 := lv.cell (p := ⟨w.heap.size, 6, none⟩) (v := .bool ot) (by simpa using o6) oz od))
            have lv2 : Lv w0 w2 ρ ρ1 D D2 := (lv1.trans (Lv.new (Keeps.refl _ w1).drew)).trans lv
            have HPP : Hid (PP w2 ρ1 D2 wb mb qb rb _ m1) := hpp
            have HLV : Hid (Lv w w2 ρ ρ1 D D2) := (Lv.new k0).trans lv2
            have HLG : Hid (lg m1 = lg m) := hd.lg
            clear lv hpp lv1 lv2 hp2 hh p0 p1 p2 p3 pz pd o0 o1 o2 o3 o4 o5 o6 o7 oz od
            go_wp2_with (go_at_call 15; refine (hnu _ _).mono ?_; rintro e wn ⟨rfl, hwn⟩; rw [← hwn]; clear hwn wn)
            go_ret
            exact ⟨rfl, ρ1, D2, _, m1, HPP.out, HLV.out, HLG.out⟩
          · have n14 : (ok == 14) = false := by simp; omega
            have HPP : Hid (PP w0 ρ D wb mb qb rb s m) := h0
            clear h0
            go_enter Tryz.func31, Tryz.ntmps31
            refine wp_seq_k (fun KK hKK => ?_)
            have hKH : Hid _ := hKK
            clear hKK
            go_wp2_with fail
            refine hKH.out _ _ ?_
            clear hKH KK
            rw [← HW0.out]
            clear HW0
            go_wp2_with (go_at_call 15; refine (hnu _ _).mono ?_; rintro e wn ⟨rfl, hwn⟩; rw [← hwn]; clear hwn wn)
            go_ret
            exact ⟨rfl, ρ, D, s, m, HPP.out, Lv.new k0, rfl⟩
end
end Go.Proofs.YtaikngpgmcpecaaGreat
namespace Go.Proofs.YtaikngpgmcpecaaGreat
open Go.RowKit
section
variable {w : World} {ρ : Nat → Nat} {D : Nat → Prop} {pb wb mb qb rb : Nat} {s : Ws} {m : Mm}
theorem lg_log (m : Mm) : m.log.length ≤ lg m := Nat.le_add_right _ _
set_option maxHeartbeats 1600000 in
set_option maxRecDepth 1000000 in
theorem bulk_any (h : PP w ρ D wb mb qb rb s m) (hp : PBl w ρ D pb mb wb rb qb) (hlg : (lg m + 1) * 56 ≤ 140737488355328) (ok oa ob1 oc on ox : Int) (ot os : Bool) : Calls Tryz.prog 24 #[.pointer (some ⟨pb, 0, none⟩), .agg #[.int .i64 ok, .int .i64 oa, .int .i64 ob1, .int .i64 oc, .int .i64 on, .int .i64 ox, .bool ot, .bool os]] w fun e w' => e = .returned (.bool true) ∧ PW w ρ D wb mb qb rb m w' := by
  obtain ⟨w0, hw0⟩ : ∃ x, x = w.alloc (.cells #[.int .i64 ok, .int .i64 oa, .int .i64 ob1, .int .i64 oc, .int .i64 on, .int .i64 ox, .bool ot, .bool os] 39) := ⟨_, rfl⟩
  have k0 : Keeps (fun _ => False) w w0 := by rw [hw0]; exact (Keeps.refl _ w).alloc _
  have h0 := h.new k0
  have hob : OBx w0 ρ D w.heap.size ⟨ok, oa, ob1, oc, ⟨on, ox, ot⟩, os⟩ := h.box ⟨ok, oa, ob1, oc, ⟨on, ox, ot⟩, os⟩ hw0
  have hpb := hp.lv (Lv.new (ρ := ρ) (D := D) k0)
  have HOB : Hid (OBx w0 ρ D w.heap.size ⟨ok, oa, ob1, oc, ⟨on, ox, ot⟩, os⟩) := hob
  have HPB : Hid (PBl w0 ρ D pb mb wb rb qb) := hpb
  have HW0 : Hid (w0 = w.alloc (.cells #[.int .i64 ok, .int .i64 oa, .int .i64 ob1, .int .i64 oc, .int .i64 on, .int .i64 ox, .bool ot, .bool os] 39)) := hw0
  have hnu := fun W x => num_of W x
  have p0 := hpb.c0
  have p1 := hpb.c1
  have p2 := hpb.c2
  have p3 := hpb.c3
  have pz := hpb.z
  have pd := hpb.d
  have o0 := hob.c0
  have o1 := hob.c1
  have o2 := hob.c2
  have o3 := hob.c3
  have o4 := hob.c4
  have o5 := hob.c5
  have o6 := hob.c6
  have o7 := hob.c7
  have oz := hob.z
  have od := hob.d
  clear hw0 hob hpb h hp
  dsimp only at o0 o1 o2 o3 o4 o5 o6 o7
  have H0 : Hid (PP w0 ρ D wb mb qb rb s m) := h0
  clear h0 p0 p1 p2 p3 pz pd o0 o1 o2 o3 o4 o5 o6 o7 oz od hnu
  go_enter Tryz.func24, Tryz.ntmps24
  refine wp_seq_k (fun KK hKK => ?_)
  have hKH : Hid _ := hKK
  clear hKK
  go_wp2_with fail
  refine hKH.out _ _ ?_
  clear hKH KK
  rw [← HW0.out]
  clear HW0
  go_wp2_with fail
  go_loopg [5] 70000 (fun g iv Wr => ∃ (i : Nat) (ρ1 : Nat → Nat) (D1 : Nat → Prop) (s1 : Ws) (m1 : Mm), i + g = 70000 ∧ iv = .int .i64 (i : Int) ∧ PP Wr ρ1 D1 wb mb qb rb s1 m1 ∧ Lv w0 Wr ρ ρ1 D D1 ∧ lg m1 = lg m)
  case atStart => exact ⟨0, ρ, D, s, m, by omega, rfl, H0.out, Lv.refl _ _ _, rfl⟩
  case round =>
    obtain ⟨i, ρ1, D1, s1, m1, hig, rfl, h1, lv, hle⟩ := hrel
    have pbl := HPB.out.lv lv
    have obx := HOB.out.lv lv
    have o0 := obx.c0
    have o1 := obx.c1
    have o2 := obx.c2
    have o3 := obx.c3
    dsimp only at o0 o1 o2 o3
    have HLV : Hid (Lv w0 wr ρ ρ1 D D1) := lv
    have HLG : Hid (lg m1 = lg m) := hle
    have hl1 : (m1.log.length + 1) * 56 ≤ 140737488355328 := by have := lg_log m1; omega
    have H1 : Hid (PP wr ρ1 D1 wb mb qb rb s1 m1) := h1
    clear lv hle obx
    by_cases hrun : (i : Int) < oa ∧ i < 70000
    · obtain ⟨ha, h7⟩ := hrun
      obtain ⟨g, rfl⟩ : ∃ g, gk = g + 1 := ⟨gk - 1, by omega⟩
      have d1 : decide ((i : Int) < oa) = true := decide_eq_true ha
      have d2 : decide ((i : Int) < 70000) = true := decide_eq_true (by omega)
      have d3 : decide (i < 70000) = true := decide_eq_true h7
      have d4 : IntKind.i64.wrap ((i : Int) + 1) = (i : Int) + 1 := by rw [IntKind.wrap_i64]; omega
      by_cases k20 : ok = 20
      · subst k20
        have hmk := makes_any h1 pbl hl1 19 (i : Int) 0 0 0 0 false false
        go_wp2_with (go_at_call 30; refine hmk.mono ?_; clear hmk; rintro e w3 ⟨rfl, ρ3, D3, s3, m3, h3, lv3, lg3⟩)
        go_roundg g
        case measure => omega
        case rel => exact ⟨i + 1, ρ3, D3, s3, m3, by omega, by go_num, h3, HLV.out.trans lv3, lg3.trans HLG.out⟩
      · have n20 : (ok == 20) = false := by simp; omega
        by_cases k21 : ok = 21
        · subst k21
          have hmk := makes_any h1 pbl hl1 1 (i : Int) ob1 oc 0 0 false false
          go_wp2_with (go_at_call 30; refine hmk.mono ?_; clear hmk; rintro e w3 ⟨rfl, ρ3, D3, s3, m3, h3, lv3, lg3⟩)
          go_roundg g
          case measure => omega
          case rel => exact ⟨i + 1, ρ3, D3, s3, m3, by omega, by go_num, h3, HLV.out.trans lv3, lg3.trans HLG.out⟩
        · have n21 : (ok == 21) = false := by simp; omega
          by_cases k22 : ok = 22
          · subst k22
            have hmk := makes_any h1 pbl hl1 3 ob1 oc 0 0 0 false false
            go_wp2_with (go_at_call 30; refine hmk.mono ?_; clear hmk; rintro e w3 ⟨rfl, ρ3, D3, s3, m3, h3, lv3, lg3⟩)
            go_roundg g
            case measure => omega
            case rel => exact ⟨i + 1, ρ3, D3, s3, m3, by omega, by go_num, h3, HLV.out.trans lv3, lg3.trans HLG.out⟩
          · have n22 : (ok == 22) = false := by simp; omega
            go_wp2_with fail
            go_roundg g
            case measure => omega
            case rel => exact ⟨i + 1, ρ1, D1, s1, m1, by omega, by go_num, H1.out, HLV.out, HLG.out⟩
    · have HX : Hid (¬ ((i : Int) < oa ∧ i < 70000)) := hrun
      by_cases ha : (i : Int) < oa
      · have d1 : decide ((i : Int) < oa) = true := decide_eq_true ha
        have d2 : decide ((i : Int) < 70000) = false := decide_eq_false (by omega)
        have d3 : decide (i < 70000) = false := decide_eq_false (by omega)
        clear hrun
        go_wp2_with fail
        go_ret
        exact ⟨rfl, ρ1, D1, s1, m1, H1.out, (Lv.new k0).trans HLV.out, HLG.out⟩
      · have d1 : decide ((i : Int) < oa) = false := decide_eq_false ha
        clear hrun
        go_wp2_with fail
        go_ret
        exact ⟨rfl, ρ1, D1, s1, m1, H1.out, (Lv.new k0).trans HLV.out, HLG.out⟩
end
end Go.Proofs.YtaikngpgmcpecaaGreat
