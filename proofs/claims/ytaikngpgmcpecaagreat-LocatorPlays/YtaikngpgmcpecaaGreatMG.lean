import Derived.Test.YtaikngpgmcpecaaGreatMF
namespace Go.Proofs.YtaikngpgmcpecaaGreat
open Go.RowKit
theorem ow_p1 {X W : World} (k : Keeps (fun _ => False) (X.alloc (.cells #[.int .i64 0, .int .i64 0, .int .i64 0] 54)) W) : CL W X.heap.size [.int .i64 0, .int .i64 0, .int .i64 0] := (CL.made X [.int .i64 0, .int .i64 0, .int .i64 0] _).keep (by show 0 < 3; decide) k (fun e => e)
theorem ow_p2 {X W : World} (k : Keeps (fun _ => False) (X.alloc (.cells #[.int .i64 0, .int .i64 0, .int .i64 0] 54)).drew W) : CL W X.heap.size [.int .i64 0, .int .i64 0, .int .i64 0] := (CL.made X [.int .i64 0, .int .i64 0, .int .i64 0] _).drew.keep (by show 0 < 3; decide) k (fun e => e)
theorem lq_p1 {X W : World} (k : Keeps (fun _ => False) (X.alloc (.cells #[.int .i64 0, .int .i64 0, .int .i64 0] 103)) W) : CL W X.heap.size [.int .i64 0, .int .i64 0, .int .i64 0] := (CL.made X [.int .i64 0, .int .i64 0, .int .i64 0] _).keep (by show 0 < 3; decide) k (fun e => e)
theorem lq_p2 {X W : World} (k : Keeps (fun _ => False) (X.alloc (.cells #[.int .i64 0, .int .i64 0, .int .i64 0] 103)).drew W) : CL W X.heap.size [.int .i64 0, .int .i64 0, .int .i64 0] := (CL.made X [.int .i64 0, .int .i64 0, .int .i64 0] _).drew.keep (by show 0 < 3; decide) k (fun e => e)
theorem vq_p1 {X W : World} (k : Keeps (fun _ => False) (X.alloc (.cells #[.int .i64 0, .int .i64 0, .bool false] 37)) W) : CL W X.heap.size [.int .i64 0, .int .i64 0, .bool false] := (CL.made X [.int .i64 0, .int .i64 0, .bool false] _).keep (by show 0 < 3; decide) k (fun e => e)
theorem vq_p2 {X W : World} (k : Keeps (fun _ => False) (X.alloc (.cells #[.int .i64 0, .int .i64 0, .bool false] 37)).drew W) : CL W X.heap.size [.int .i64 0, .int .i64 0, .bool false] := (CL.made X [.int .i64 0, .int .i64 0, .bool false] _).drew.keep (by show 0 < 3; decide) k (fun e => e)
section
variable {w : World} {ρ : Nat → Nat} {D : Nat → Prop} {pb wb mb qb rb : Nat} {s : Ws} {m : Mm}
set_option maxHeartbeats 1600000 in
set_option maxRecDepth 1000000 in
theorem looks_any (h : PP w ρ D wb mb qb rb s m) (hp : PBl w ρ D pb mb wb rb qb) (hlg : m.log.length ≤ 4611686018427387903) (ok oa ob1 oc on ox : Int) (ot os : Bool) : Calls Tryz.prog 29 #[.pointer (some ⟨pb, 0, none⟩), .agg #[.int .i64 ok, .int .i64 oa, .int .i64 ob1, .int .i64 oc, .int .i64 on, .int .i64 ox, .bool ot, .bool os]] w fun e w' => e = .returned (.bool true) ∧ PW w ρ D wb mb qb rb m w' := by
  obtain ⟨w0, hw0⟩ : ∃ x, x = w.alloc (.cells #[.int .i64 ok, .int .i64 oa, .int .i64 ob1, .int .i64 oc, .int .i64 on, .int .i64 ox, .bool ot, .bool os] 39) := ⟨_, rfl⟩
  have k0 : Keeps (fun _ => False) w w0 := by rw [hw0]; exact (Keeps.refl _ w).alloc _
  have h0 := h.new k0
  have hob : OBx w0 ρ D w.heap.size ⟨ok, oa, ob1, oc, ⟨on, ox, ot⟩, os⟩ := h.box ⟨ok, oa, ob1, oc, ⟨on, ox, ot⟩, os⟩ hw0
  have hpb := hp.lv (Lv.new (ρ := ρ) (D := D) k0)
  have HOB : Hid (OBx w0 ρ D w.heap.size ⟨ok, oa, ob1, oc, ⟨on, ox, ot⟩, os⟩) := hob
  have HPB : Hid (PBl w0 ρ D pb mb wb rb qb) := hpb
  have HW0 : Hid (w0 = w.alloc (.cells #[.int .i64 ok, .int .i64 oa, .int .i64 ob1, .int .i64 oc, .int .i64 on, .int .i64 ox, .bool ot, .bool os] 39)) := hw0
  have hnu := fun W x => num_of W x
  have p0 := hpb.c0
  have p1 := hpb.c1
  have p2 := hpb.c2
  have p3 := hpb.c3
  have pz := hpb.z
  have pd := hpb.d
  have o0 := hob.c0
  have o1 := hob.c1
  have o2 := hob.c2
  have o3 := hob.c3
  have o4 := hob.c4
  have o5 := hob.c5
  have o6 := hob.c6
  have o7 := hob.c7
  have oz := hob.z
  have od := hob.d
  clear hw0 hob hpb h hp
  dsimp only at o0 o1 o2 o3 o4 o5 o6 o7
  by_cases h2 : ok = 2
  · subst h2
    obtain ⟨v, er, ⟨hp1, hp2⟩, va, vb, vc, rfl⟩ := lk_ow h0 oa
    dsimp only at hp1 hp2
    have H0 : Hid (PP w0 ρ D wb mb qb rb s m) := h0
    clear h0
    have KB : ∀ {W : World}, Keeps (fun _ => False) w0 W → Keeps (fun _ => False) w0 W := fun k => k
    go_enter Tryz.func29, Tryz.ntmps29
    refine wp_seq_k (fun KK hKK => ?_)
    have hKH : Hid _ := hKK
    clear hKK
    go_wp2_with fail
    refine hKH.out _ _ ?_
    clear hKH KK
    rw [← HW0.out]
    clear HW0
    go_wp2_with fail
    have kD : Keeps (fun _ => False) w0 w0.drew := (Keeps.refl _ w0).drew
    have fp1 : w0.drew.cell? ⟨pb, 1, none⟩ = some (.pointer (some ⟨wb, 0, none⟩)) := p1
    have nnp1 := World.new_ne w0.drew _ fp1
    have nmp1 : ¬ w0.heap.size = pb := nnp1
    have npp1 : ¬ pb = w0.heap.size := fun e => nmp1 e.symm
    have fo1 : w0.drew.cell? ⟨w.heap.size, 1, none⟩ = some (.int .i64 oa) := o1
    have nno1 := World.new_ne w0.drew _ fo1
    have nmo1 : ¬ w0.heap.size = w.heap.size := nno1
    have npo1 : ¬ w.heap.size = w0.heap.size := fun e => nmo1 e.symm
    go_region_held3 (fun w' => w'.cell? ⟨pb, 1, none⟩ = some (.pointer (some ⟨wb, 0, none⟩)) ∧ w'.cell? ⟨w.heap.size, 1, none⟩ = some (.int .i64 oa)) (go_keep) ((go_at_call 55; refine (hp1 _ (by first | exact KB kD | exact KB (kD.alloc _) | exact KB (((Keeps.refl _ w0).alloc _).drew))).mono ?_; rintro e w1 ⟨rfl, ko⟩; have gp1 := ko.cell (p := ⟨pb, 1, none⟩) (v := .pointer (some ⟨wb, 0, none⟩)) (by first | exact fp1 | exact ((Keeps.refl (fun _ => False) w0.drew).alloc _).cell fp1 id | exact ((Keeps.refl (fun _ => False) w0).alloc _).cell p1 id | exact (((Keeps.refl (fun _ => False) w0).alloc _).drew).cell p1 id) id; have nzp1 := World.new_ne w1 _ gp1; have go1 := ko.cell (p := ⟨w.heap.size, 1, none⟩) (v := .int .i64 oa) (by first | exact fo1 | exact ((Keeps.refl (fun _ => False) w0.drew).alloc _).cell fo1 id | exact ((Keeps.refl (fun _ => False) w0).alloc _).cell o1 id | exact (((Keeps.refl (fun _ => False) w0).alloc _).drew).cell o1 id) id; have nzo1 := World.new_ne w1 _ go1; (first | (have qB := ow_p1 ko; have b0 := qB.c 0 _ rfl; have zb0 := qB.z 0 (by show 0 < 3; decide); have b1 := qB.c 1 _ rfl; have zb1 := qB.z 1 (by show 1 < 3; decide); have b2 := qB.c 2 _ rfl; have zb2 := qB.z 2 (by show 2 < 3; decide)) | (have qB := ow_p2 ko; have b0 := qB.c 0 _ rfl; have zb0 := qB.z 0 (by show 0 < 3; decide); have b1 := qB.c 1 _ rfl; have zb1 := qB.z 1 (by show 1 < 3; decide); have b2 := qB.c 2 _ rfl; have zb2 := qB.z 2 (by show 2 < 3; decide)) | skip)))
    all_goals (try simp only [Exit.then])
    all_goals (first | (obtain ⟨W1, hX⟩ : ∃ x, x = w1.alloc (.cells #[.int .i64 va, .int .i64 vb, .int .i64 vc] 54) := ⟨_, rfl⟩; rw [← hX]; have K1 : Keeps (fun _ => False) w0 W1 := (by rw [hX]; exact (kD.trans ko).alloc _); have c0 : W1.cell? ⟨w1.heap.size, 0, none⟩ = some (.int .i64 va) := (by rw [hX]; simp); have c1 : W1.cell? ⟨w1.heap.size, 1, none⟩ = some (.int .i64 vb) := (by rw [hX]; simp); have c2 : W1.cell? ⟨w1.heap.size, 2, none⟩ = some (.int .i64 vc) := (by rw [hX]; simp); clear hX) | (obtain ⟨W1, hX⟩ : ∃ x, x = ((w1.setCell ⟨w0.heap.size, 0, none⟩ (.int .i64 va)).setCell ⟨w0.heap.size, 1, none⟩ (.int .i64 vb)).setCell ⟨w0.heap.size, 2, none⟩ (.int .i64 vc) := ⟨_, rfl⟩; rw [← hX]; have k1 : Keeps (fun _ => False) w0 w1 := (by first | exact (((Keeps.refl _ w0).alloc _).drew).trans ko | exact (kD.alloc _).trans ko); have K1 : Keeps (fun _ => False) w0 W1 := (by rw [hX]; exact k1.trans' (keeps_set3 _ w0.heap.size _ _ _) (fun _ _ e => e) (fun i hi e => by omega)); have qS := ((qB.set (o := 0) (by show 0 < 3; decide) (.int .i64 va)).set (o := 1) (by show 1 < 3; decide) (.int .i64 vb)).set (o := 2) (by show 2 < 3; decide) (.int .i64 vc); rw [← hX] at qS; have c0 : W1.cell? ⟨w0.heap.size, 0, none⟩ = some (.int .i64 va) := qS.c 0 _ rfl; have c1 : W1.cell? ⟨w0.heap.size, 1, none⟩ = some (.int .i64 vb) := qS.c 1 _ rfl; have c2 : W1.cell? ⟨w0.heap.size, 2, none⟩ = some (.int .i64 vc) := qS.c 2 _ rfl; clear hX k1 qS qB))
    all_goals
      clear hp1 KB kD
      have p0 := K1.cell p0 id
      have p1 := K1.cell p1 id
      have p2 := K1.cell p2 id
      have p3 := K1.cell p3 id
      have o0 := K1.cell o0 id
      have o1 := K1.cell o1 id
      have o2 := K1.cell o2 id
      have o3 := K1.cell o3 id
      have o4 := K1.cell o4 id
      have o5 := K1.cell o5 id
      have o6 := K1.cell o6 id
      have o7 := K1.cell o7 id
      have KB : ∀ {W : World}, Keeps (fun _ => False) W1 W → Keeps (fun _ => False) w0 W := fun k => K1.trans k
      go_wp2_with fail
      have kD : Keeps (fun _ => False) W1 W1.drew := (Keeps.refl _ W1).drew
      have fp3 : W1.drew.cell? ⟨pb, 3, none⟩ = some (.pointer (some ⟨qb, 0, none⟩)) := p3
      have nnp3 := World.new_ne W1.drew _ fp3
      have nmp3 : ¬ W1.heap.size = pb := nnp3
      have npp3 : ¬ pb = W1.heap.size := fun e => nmp3 e.symm
      have fo1 : W1.drew.cell? ⟨w.heap.size, 1, none⟩ = some (.int .i64 oa) := o1
      have nno1 := World.new_ne W1.drew _ fo1
      have nmo1 : ¬ W1.heap.size = w.heap.size := nno1
      have npo1 : ¬ w.heap.size = W1.heap.size := fun e => nmo1 e.symm
      go_region_held3 (fun w' => w'.cell? ⟨pb, 3, none⟩ = some (.pointer (some ⟨qb, 0, none⟩)) ∧ w'.cell? ⟨w.heap.size, 1, none⟩ = some (.int .i64 oa)) (go_keep) ((go_at_call 56; refine (hp2 _ (by first | exact KB kD | exact KB (kD.alloc _) | exact KB (((Keeps.refl _ W1).alloc _).drew))).mono ?_; rintro e w2 ⟨rfl, kp⟩; have gp3 := kp.cell (p := ⟨pb, 3, none⟩) (v := .pointer (some ⟨qb, 0, none⟩)) (by first | exact fp3 | exact ((Keeps.refl (fun _ => False) W1.drew).alloc _).cell fp3 id | exact ((Keeps.refl (fun _ => False) W1).alloc _).cell p3 id | exact (((Keeps.refl (fun _ => False) W1).alloc _).drew).cell p3 id) id; have nzp3 := World.new_ne w2 _ gp3; have go1 := kp.cell (p := ⟨w.heap.size, 1, none⟩) (v := .int .i64 oa) (by first | exact fo1 | exact ((Keeps.refl (fun _ => False) W1.drew).alloc _).cell fo1 id | exact ((Keeps.refl (fun _ => False) W1).alloc _).cell o1 id | exact (((Keeps.refl (fun _ => False) W1).alloc _).drew).cell o1 id) id; have nzo1 := World.new_ne w2 _ go1; (first | (have qB := ow_p1 kp; have b0 := qB.c 0 _ rfl; have zb0 := qB.z 0 (by show 0 < 3; decide); have b1 := qB.c 1 _ rfl; have zb1 := qB.z 1 (by show 1 < 3; decide); have b2 := qB.c 2 _ rfl; have zb2 := qB.z 2 (by show 2 < 3; decide)) | (have qB := ow_p2 kp; have b0 := qB.c 0 _ rfl; have zb0 := qB.z 0 (by show 0 < 3; decide); have b1 := qB.c 1 _ rfl; have zb1 := qB.z 1 (by show 1 < 3; decide); have b2 := qB.c 2 _ rfl; have zb2 := qB.z 2 (by show 2 < 3; decide)) | skip)))
      all_goals (try simp only [Exit.then])
      all_goals (first | (obtain ⟨W2, hX⟩ : ∃ x, x = w2.alloc (.cells #[.int .i64 va, .int .i64 vb, .int .i64 vc] 54) := ⟨_, rfl⟩; rw [← hX]; have K2 : Keeps (fun _ => False) W1 W2 := (by rw [hX]; exact (kD.trans kp).alloc _); have e0 : W2.cell? ⟨w2.heap.size, 0, none⟩ = some (.int .i64 va) := (by rw [hX]; simp); have e1 : W2.cell? ⟨w2.heap.size, 1, none⟩ = some (.int .i64 vb) := (by rw [hX]; simp); have e2 : W2.cell? ⟨w2.heap.size, 2, none⟩ = some (.int .i64 vc) := (by rw [hX]; simp); clear hX) | (obtain ⟨W2, hX⟩ : ∃ x, x = ((w2.setCell ⟨W1.heap.size, 0, none⟩ (.int .i64 va)).setCell ⟨W1.heap.size, 1, none⟩ (.int .i64 vb)).setCell ⟨W1.heap.size, 2, none⟩ (.int .i64 vc) := ⟨_, rfl⟩; rw [← hX]; have k1 : Keeps (fun _ => False) W1 w2 := (by first | exact (((Keeps.refl _ W1).alloc _).drew).trans kp | exact (kD.alloc _).trans kp); have K2 : Keeps (fun _ => False) W1 W2 := (by rw [hX]; exact k1.trans' (keeps_set3 _ W1.heap.size _ _ _) (fun _ _ e => e) (fun i hi e => by omega)); have qS := ((qB.set (o := 0) (by show 0 < 3; decide) (.int .i64 va)).set (o := 1) (by show 1 < 3; decide) (.int .i64 vb)).set (o := 2) (by show 2 < 3; decide) (.int .i64 vc); rw [← hX] at qS; have e0 : W2.cell? ⟨W1.heap.size, 0, none⟩ = some (.int .i64 va) := qS.c 0 _ rfl; have e1 : W2.cell? ⟨W1.heap.size, 1, none⟩ = some (.int .i64 vb) := qS.c 1 _ rfl; have e2 : W2.cell? ⟨W1.heap.size, 2, none⟩ = some (.int .i64 vc) := qS.c 2 _ rfl; clear hX k1 qS qB))
      all_goals
        have c0 := K2.cell c0 id
        have c1 := K2.cell c1 id
        have c2 := K2.cell c2 id
        clear hp2 KB kD p0 p1 p2 p3 o0 o1 o2 o3 o4 o5 o6 o7
        go_wp2_with (go_at_call 15; refine (hnu _ _).mono ?_; rintro e wn ⟨rfl, hwn⟩; rw [← hwn]; clear hwn wn)
        go_ret
        exact ⟨rfl, ρ, D, s, m, H0.out.new (K1.trans K2), Lv.new ((k0.trans K1).trans K2), rfl⟩
  · have n2 : (ok == 2) = false := by simp; omega
    by_cases h4 : ok = 4
    · subst h4
      obtain ⟨v, er, ⟨hp1, hp2⟩, va, vb, vc, rfl⟩ := lk_lo h0 oa
      dsimp only at hp1 hp2
      have H0 : Hid (PP w0 ρ D wb mb qb rb s m) := h0
      clear h0
      have KB : ∀ {W : World}, Keeps (fun _ => False) w0 W → Keeps (fun _ => False) w0 W := fun k => k
      go_enter Tryz.func29, Tryz.ntmps29
      refine wp_seq_k (fun KK hKK => ?_)
      have hKH : Hid _ := hKK
      clear hKK
      go_wp2_with fail
      refine hKH.out _ _ ?_
      clear hKH KK
      rw [← HW0.out]
      clear HW0
      go_wp2_with fail
      have kD : Keeps (fun _ => False) w0 w0.drew := (Keeps.refl _ w0).drew
      have fp1 : w0.drew.cell? ⟨pb, 1, none⟩ = some (.pointer (some ⟨wb, 0, none⟩)) := p1
      have nnp1 := World.new_ne w0.drew _ fp1
      have nmp1 : ¬ w0.heap.size = pb := nnp1
      have npp1 : ¬ pb = w0.heap.size := fun e => nmp1 e.symm
      have fo1 : w0.drew.cell? ⟨w.heap.size, 1, none⟩ = some (.int .i64 oa) := o1
      have nno1 := World.new_ne w0.drew _ fo1
      have nmo1 : ¬ w0.heap.size = w.heap.size := nno1
      have npo1 : ¬ w.heap.size = w0.heap.size := fun e => nmo1 e.symm
      go_region_held3 (fun w' => w'.cell? ⟨pb, 1, none⟩ = some (.pointer (some ⟨wb, 0, none⟩)) ∧ w'.cell? ⟨w.heap.size, 1, none⟩ = some (.int .i64 oa)) (go_keep) ((go_at_call 57; refine (hp1 _ (by first | exact KB kD | exact KB (kD.alloc _) | exact KB (((Keeps.refl _ w0).alloc _).drew))).mono ?_; rintro e w1 ⟨rfl, ko⟩; have gp1 := ko.cell (p := ⟨pb, 1, none⟩) (v := .pointer (some ⟨wb, 0, none⟩)) (by first | exact fp1 | exact ((Keeps.refl (fun _ => False) w0.drew).alloc _).cell fp1 id | exact ((Keeps.refl (fun _ => False) w0).alloc _).cell p1 id | exact (((Keeps.refl (fun _ => False) w0).alloc _).drew).cell p1 id) id; have nzp1 := World.new_ne w1 _ gp1; have go1 := ko.cell (p := ⟨w.heap.size, 1, none⟩) (v := .int .i64 oa) (by first | exact fo1 | exact ((Keeps.refl (fun _ => False) w0.drew).alloc _).cell fo1 id | exact ((Keeps.refl (fun _ => False) w0).alloc _).cell o1 id | exact (((Keeps.refl (fun _ => False) w0).alloc _).drew).cell o1 id) id; have nzo1 := World.new_ne w1 _ go1; (first | (have qB := lq_p1 ko; have b0 := qB.c 0 _ rfl; have zb0 := qB.z 0 (by show 0 < 3; decide); have b1 := qB.c 1 _ rfl; have zb1 := qB.z 1 (by show 1 < 3; decide); have b2 := qB.c 2 _ rfl; have zb2 := qB.z 2 (by show 2 < 3; decide)) | (have qB := lq_p2 ko; have b0 := qB.c 0 _ rfl; have zb0 := qB.z 0 (by show 0 < 3; decide); have b1 := qB.c 1 _ rfl; have zb1 := qB.z 1 (by show 1 < 3; decide); have b2 := qB.c 2 _ rfl; have zb2 := qB.z 2 (by show 2 < 3; decide)) | skip)))
      all_goals (try simp only [Exit.then])
      all_goals (first | (obtain ⟨W1, hX⟩ : ∃ x, x = w1.alloc (.cells #[.int .i64 va, .int .i64 vb, .int .i64 vc] 103) := ⟨_, rfl⟩; rw [← hX]; have K1 : Keeps (fun _ => False) w0 W1 := (by rw [hX]; exact (kD.trans ko).alloc _); have c0 : W1.cell? ⟨w1.heap.size, 0, none⟩ = some (.int .i64 va) := (by rw [hX]; simp); have c1 : W1.cell? ⟨w1.heap.size, 1, none⟩ = some (.int .i64 vb) := (by rw [hX]; simp); have c2 : W1.cell? ⟨w1.heap.size, 2, none⟩ = some (.int .i64 vc) := (by rw [hX]; simp); clear hX) | (obtain ⟨W1, hX⟩ : ∃ x, x = ((w1.setCell ⟨w0.heap.size, 0, none⟩ (.int .i64 va)).setCell ⟨w0.heap.size, 1, none⟩ (.int .i64 vb)).setCell ⟨w0.heap.size, 2, none⟩ (.int .i64 vc) := ⟨_, rfl⟩; rw [← hX]; have k1 : Keeps (fun _ => False) w0 w1 := (by first | exact (((Keeps.refl _ w0).alloc _).drew).trans ko | exact (kD.alloc _).trans ko); have K1 : Keeps (fun _ => False) w0 W1 := (by rw [hX]; exact k1.trans' (keeps_set3 _ w0.heap.size _ _ _) (fun _ _ e => e) (fun i hi e => by omega)); have qS := ((qB.set (o := 0) (by show 0 < 3; decide) (.int .i64 va)).set (o := 1) (by show 1 < 3; decide) (.int .i64 vb)).set (o := 2) (by show 2 < 3; decide) (.int .i64 vc); rw [← hX] at qS; have c0 : W1.cell? ⟨w0.heap.size, 0, none⟩ = some (.int .i64 va) := qS.c 0 _ rfl; have c1 : W1.cell? ⟨w0.heap.size, 1, none⟩ = some (.int .i64 vb) := qS.c 1 _ rfl; have c2 : W1.cell? ⟨w0.heap.size, 2, none⟩ = some (.int .i64 vc) := qS.c 2 _ rfl; clear hX k1 qS qB))
      all_goals
        clear hp1 KB kD
        have p0 := K1.cell p0 id
        have p1 := K1.cell p1 id
        have p2 := K1.cell p2 id
        have p3 := K1.cell p3 id
        have o0 := K1.cell o0 id
        have o1 := K1.cell o1 id
        have o2 := K1.cell o2 id
        have o3 := K1.cell o3 id
        have o4 := K1.cell o4 id
        have o5 := K1.cell o5 id
        have o6 := K1.cell o6 id
        have o7 := K1.cell o7 id
        have KB : ∀ {W : World}, Keeps (fun _ => False) W1 W → Keeps (fun _ => False) w0 W := fun k => K1.trans k
        go_wp2_with fail
        have kD : Keeps (fun _ => False) W1 W1.drew := (Keeps.refl _ W1).drew
        have fp3 : W1.drew.cell? ⟨pb, 3, none⟩ = some (.pointer (some ⟨qb, 0, none⟩)) := p3
        have nnp3 := World.new_ne W1.drew _ fp3
        have nmp3 : ¬ W1.heap.size = pb := nnp3
        have npp3 : ¬ pb = W1.heap.size := fun e => nmp3 e.symm
        have fo1 : W1.drew.cell? ⟨w.heap.size, 1, none⟩ = some (.int .i64 oa) := o1
        have nno1 := World.new_ne W1.drew _ fo1
        have nmo1 : ¬ W1.heap.size = w.heap.size := nno1
        have npo1 : ¬ w.heap.size = W1.heap.size := fun e => nmo1 e.symm
        go_region_held3 (fun w' => w'.cell? ⟨pb, 3, none⟩ = some (.pointer (some ⟨qb, 0, none⟩)) ∧ w'.cell? ⟨w.heap.size, 1, none⟩ = some (.int .i64 oa)) (go_keep) ((go_at_call 58; refine (hp2 _ (by first | exact KB kD | exact KB (kD.alloc _) | exact KB (((Keeps.refl _ W1).alloc _).drew))).mono ?_; rintro e w2 ⟨rfl, kp⟩; have gp3 := kp.cell (p := ⟨pb, 3, none⟩) (v := .pointer (some ⟨qb, 0, none⟩)) (by first | exact fp3 | exact ((Keeps.refl (fun _ => False) W1.drew).alloc _).cell fp3 id | exact ((Keeps.refl (fun _ => False) W1).alloc _).cell p3 id | exact (((Keeps.refl (fun _ => False) W1).alloc _).drew).cell p3 id) id; have nzp3 := World.new_ne w2 _ gp3; have go1 := kp.cell (p := ⟨w.heap.size, 1, none⟩) (v := .int .i64 oa) (by first | exact fo1 | exact ((Keeps.refl (fun _ => False) W1.drew).alloc _).cell fo1 id | exact ((Keeps.refl (fun _ => False) W1).alloc _).cell o1 id | exact (((Keeps.refl (fun _ => False) W1).alloc _).drew).cell o1 id) id; have nzo1 := World.new_ne w2 _ go1; (first | (have qB := lq_p1 kp; have b0 := qB.c 0 _ rfl; have zb0 := qB.z 0 (by show 0 < 3; decide); have b1 := qB.c 1 _ rfl; have zb1 := qB.z 1 (by show 1 < 3; decide); have b2 := qB.c 2 _ rfl; have zb2 := qB.z 2 (by show 2 < 3; decide)) | (have qB := lq_p2 kp; have b0 := qB.c 0 _ rfl; have zb0 := qB.z 0 (by show 0 < 3; decide); have b1 := qB.c 1 _ rfl; have zb1 := qB.z 1 (by show 1 < 3; decide); have b2 := qB.c 2 _ rfl; have zb2 := qB.z 2 (by show 2 < 3; decide)) | skip)))
        all_goals (try simp only [Exit.then])
        all_goals (first | (obtain ⟨W2, hX⟩ : ∃ x, x = w2.alloc (.cells #[.int .i64 va, .int .i64 vb, .int .i64 vc] 103) := ⟨_, rfl⟩; rw [← hX]; have K2 : Keeps (fun _ => False) W1 W2 := (by rw [hX]; exact (kD.trans kp).alloc _); have e0 : W2.cell? ⟨w2.heap.size, 0, none⟩ = some (.int .i64 va) := (by rw [hX]; simp); have e1 : W2.cell? ⟨w2.heap.size, 1, none⟩ = some (.int .i64 vb) := (by rw [hX]; simp); have e2 : W2.cell? ⟨w2.heap.size, 2, none⟩ = some (.int .i64 vc) := (by rw [hX]; simp); clear hX) | (obtain ⟨W2, hX⟩ : ∃ x, x = ((w2.setCell ⟨W1.heap.size, 0, none⟩ (.int .i64 va)).setCell ⟨W1.heap.size, 1, none⟩ (.int .i64 vb)).setCell ⟨W1.heap.size, 2, none⟩ (.int .i64 vc) := ⟨_, rfl⟩; rw [← hX]; have k1 : Keeps (fun _ => False) W1 w2 := (by first | exact (((Keeps.refl _ W1).alloc _).drew).trans kp | exact (kD.alloc _).trans kp); have K2 : Keeps (fun _ => False) W1 W2 := (by rw [hX]; exact k1.trans' (keeps_set3 _ W1.heap.size _ _ _) (fun _ _ e => e) (fun i hi e => by omega)); have qS := ((qB.set (o := 0) (by show 0 < 3; decide) (.int .i64 va)).set (o := 1) (by show 1 < 3; decide) (.int .i64 vb)).set (o := 2) (by show 2 < 3; decide) (.int .i64 vc); rw [← hX] at qS; have e0 : W2.cell? ⟨W1.heap.size, 0, none⟩ = some (.int .i64 va) := qS.c 0 _ rfl; have e1 : W2.cell? ⟨W1.heap.size, 1, none⟩ = some (.int .i64 vb) := qS.c 1 _ rfl; have e2 : W2.cell? ⟨W1.heap.size, 2, none⟩ = some (.int .i64 vc) := qS.c 2 _ rfl; clear hX k1 qS qB))
        all_goals
          have c0 := K2.cell c0 id
          have c1 := K2.cell c1 id
          have c2 := K2.cell c2 id
          clear hp2 KB kD p0 p1 p2 p3 o0 o1 o2 o3 o4 o5 o6 o7
          go_wp2_with (go_at_call 15; refine (hnu _ _).mono ?_; rintro e wn ⟨rfl, hwn⟩; rw [← hwn]; clear hwn wn)
          go_ret
          exact ⟨rfl, ρ, D, s, m, H0.out.new (K1.trans K2), Lv.new ((k0.trans K1).trans K2), rfl⟩
    · have n4 : (ok == 4) = false := by simp; omega
      by_cases h5 : ok = 5
      · subst h5
        obtain ⟨v, er, ⟨hp1, hp2⟩, va, vb, vc, rfl⟩ := lk_ve h0 oa
        dsimp only at hp1 hp2
        have H0 : Hid (PP w0 ρ D wb mb qb rb s m) := h0
        clear h0
        have KB : ∀ {W : World}, Keeps (fun _ => False) w0 W → Keeps (fun _ => False) w0 W := fun k => k
        go_enter Tryz.func29, Tryz.ntmps29
        refine wp_seq_k (fun KK hKK => ?_)
        have hKH : Hid _ := hKK
        clear hKK
        go_wp2_with fail
        refine hKH.out _ _ ?_
        clear hKH KK
        rw [← HW0.out]
        clear HW0
        go_wp2_with fail
        have kD : Keeps (fun _ => False) w0 w0.drew := (Keeps.refl _ w0).drew
        have fp1 : w0.drew.cell? ⟨pb, 1, none⟩ = some (.pointer (some ⟨wb, 0, none⟩)) := p1
        have nnp1 := World.new_ne w0.drew _ fp1
        have nmp1 : ¬ w0.heap.size = pb := nnp1
        have npp1 : ¬ pb = w0.heap.size := fun e => nmp1 e.symm
        have fo1 : w0.drew.cell? ⟨w.heap.size, 1, none⟩ = some (.int .i64 oa) := o1
        have nno1 := World.new_ne w0.drew _ fo1
        have nmo1 : ¬ w0.heap.size = w.heap.size := nno1
        have npo1 : ¬ w.heap.size = w0.heap.size := fun e => nmo1 e.symm
        go_region_held3 (fun w' => w'.cell? ⟨pb, 1, none⟩ = some (.pointer (some ⟨wb, 0, none⟩)) ∧ w'.cell? ⟨w.heap.size, 1, none⟩ = some (.int .i64 oa)) (go_keep) ((go_at_call 45; refine (hp1 _ (by first | exact KB kD | exact KB (kD.alloc _) | exact KB (((Keeps.refl _ w0).alloc _).drew))).mono ?_; rintro e w1 ⟨rfl, ko⟩; have gp1 := ko.cell (p := ⟨pb, 1, none⟩) (v := .pointer (some ⟨wb, 0, none⟩)) (by first | exact fp1 | exact ((Keeps.refl (fun _ => False) w0.drew).alloc _).cell fp1 id | exact ((Keeps.refl (fun _ => False) w0).alloc _).cell p1 id | exact (((Keeps.refl (fun _ => False) w0).alloc _).drew).cell p1 id) id; have nzp1 := World.new_ne w1 _ gp1; have go1 := ko.cell (p := ⟨w.heap.size, 1, none⟩) (v := .int .i64 oa) (by first | exact fo1 | exact ((Keeps.refl (fun _ => False) w0.drew).alloc _).cell fo1 id | exact ((Keeps.refl (fun _ => False) w0).alloc _).cell o1 id | exact (((Keeps.refl (fun _ => False) w0).alloc _).drew).cell o1 id) id; have nzo1 := World.new_ne w1 _ go1; (first | (have qB := vq_p1 ko; have b0 := qB.c 0 _ rfl; have zb0 := qB.z 0 (by show 0 < 3; decide); have b1 := qB.c 1 _ rfl; have zb1 := qB.z 1 (by show 1 < 3; decide); have b2 := qB.c 2 _ rfl; have zb2 := qB.z 2 (by show 2 < 3; decide)) | (have qB := vq_p2 ko; have b0 := qB.c 0 _ rfl; have zb0 := qB.z 0 (by show 0 < 3; decide); have b1 := qB.c 1 _ rfl; have zb1 := qB.z 1 (by show 1 < 3; decide); have b2 := qB.c 2 _ rfl; have zb2 := qB.z 2 (by show 2 < 3; decide)) | skip)))
        all_goals (try simp only [Exit.then])
        all_goals (first | (obtain ⟨W1, hX⟩ : ∃ x, x = w1.alloc (.cells #[.int .i64 va, .int .i64 vb, .bool vc] 37) := ⟨_, rfl⟩; rw [← hX]; have K1 : Keeps (fun _ => False) w0 W1 := (by rw [hX]; exact (kD.trans ko).alloc _); have c0 : W1.cell? ⟨w1.heap.size, 0, none⟩ = some (.int .i64 va) := (by rw [hX]; simp); have c1 : W1.cell? ⟨w1.heap.size, 1, none⟩ = some (.int .i64 vb) := (by rw [hX]; simp); have c2 : W1.cell? ⟨w1.heap.size, 2, none⟩ = some (.bool vc) := (by rw [hX]; simp); clear hX) | (obtain ⟨W1, hX⟩ : ∃ x, x = ((w1.setCell ⟨w0.heap.size, 0, none⟩ (.int .i64 va)).setCell ⟨w0.heap.size, 1, none⟩ (.int .i64 vb)).setCell ⟨w0.heap.size, 2, none⟩ (.bool vc) := ⟨_, rfl⟩; rw [← hX]; have k1 : Keeps (fun _ => False) w0 w1 := (by first | exact (((Keeps.refl _ w0).alloc _).drew).trans ko | exact (kD.alloc _).trans ko); have K1 : Keeps (fun _ => False) w0 W1 := (by rw [hX]; exact k1.trans' (keeps_set3 _ w0.heap.size _ _ _) (fun _ _ e => e) (fun i hi e => by omega)); have qS := ((qB.set (o := 0) (by show 0 < 3; decide) (.int .i64 va)).set (o := 1) (by show 1 < 3; decide) (.int .i64 vb)).set (o := 2) (by show 2 < 3; decide) (.bool vc); rw [← hX] at qS; have c0 : W1.cell? ⟨w0.heap.size, 0, none⟩ = some (.int .i64 va) := qS.c 0 _ rfl; have c1 : W1.cell? ⟨w0.heap.size, 1, none⟩ = some (.int .i64 vb) := qS.c 1 _ rfl; have c2 : W1.cell? ⟨w0.heap.size, 2, none⟩ = some (.bool vc) := qS.c 2 _ rfl; clear hX k1 qS qB))
        all_goals
          clear hp1 KB kD
          have p0 := K1.cell p0 id
          have p1 := K1.cell p1 id
          have p2 := K1.cell p2 id
          have p3 := K1.cell p3 id
          have o0 := K1.cell o0 id
          have o1 := K1.cell o1 id
          have o2 := K1.cell o2 id
          have o3 := K1.cell o3 id
          have o4 := K1.cell o4 id
          have o5 := K1.cell o5 id
          have o6 := K1.cell o6 id
          have o7 := K1.cell o7 id
          have KB : ∀ {W : World}, Keeps (fun _ => False) W1 W → Keeps (fun _ => False) w0 W := fun k => K1.trans k
          go_wp2_with fail
          have kD : Keeps (fun _ => False) W1 W1.drew := (Keeps.refl _ W1).drew
          have fp3 : W1.drew.cell? ⟨pb, 3, none⟩ = some (.pointer (some ⟨qb, 0, none⟩)) := p3
          have nnp3 := World.new_ne W1.drew _ fp3
          have nmp3 : ¬ W1.heap.size = pb := nnp3
          have npp3 : ¬ pb = W1.heap.size := fun e => nmp3 e.symm
          have fo1 : W1.drew.cell? ⟨w.heap.size, 1, none⟩ = some (.int .i64 oa) := o1
          have nno1 := World.new_ne W1.drew _ fo1
          have nmo1 : ¬ W1.heap.size = w.heap.size := nno1
          have npo1 : ¬ w.heap.size = W1.heap.size := fun e => nmo1 e.symm
          go_region_held3 (fun w' => w'.cell? ⟨pb, 3, none⟩ = some (.pointer (some ⟨qb, 0, none⟩)) ∧ w'.cell? ⟨w.heap.size, 1, none⟩ = some (.int .i64 oa)) (go_keep) ((go_at_call 59; refine (hp2 _ (by first | exact KB kD | exact KB (kD.alloc _) | exact KB (((Keeps.refl _ W1).alloc _).drew))).mono ?_; rintro e w2 ⟨rfl, kp⟩; have gp3 := kp.cell (p := ⟨pb, 3, none⟩) (v := .pointer (some ⟨qb, 0, none⟩)) (by first | exact fp3 | exact ((Keeps.refl (fun _ => False) W1.drew).alloc _).cell fp3 id | exact ((Keeps.refl (fun _ => False) W1).alloc _).cell p3 id | exact (((Keeps.refl (fun _ => False) W1).alloc _).drew).cell p3 id) id; have nzp3 := World.new_ne w2 _ gp3; have go1 := kp.cell (p := ⟨w.heap.size, 1, none⟩) (v := .int .i64 oa) (by first | exact fo1 | exact ((Keeps.refl (fun _ => False) W1.drew).alloc _).cell fo1 id | exact ((Keeps.refl (fun _ => False) W1).alloc _).cell o1 id | exact (((Keeps.refl (fun _ => False) W1).alloc _).drew).cell o1 id) id; have nzo1 := World.new_ne w2 _ go1; (first | (have qB := vq_p1 kp; have b0 := qB.c 0 _ rfl; have zb0 := qB.z 0 (by show 0 < 3; decide); have b1 := qB.c 1 _ rfl; have zb1 := qB.z 1 (by show 1 < 3; decide); have b2 := qB.c 2 _ rfl; have zb2 := qB.z 2 (by show 2 < 3; decide)) | (have qB := vq_p2 kp; have b0 := qB.c 0 _ rfl; have zb0 := qB.z 0 (by show 0 < 3; decide); have b1 := qB.c 1 _ rfl; have zb1 := qB.z 1 (by show 1 < 3; decide); have b2 := qB.c 2 _ rfl; have zb2 := qB.z 2 (by show 2 < 3; decide)) | skip)))
          all_goals (try simp only [Exit.then])
          all_goals (first | (obtain ⟨W2, hX⟩ : ∃ x, x = w2.alloc (.cells #[.int .i64 va, .int .i64 vb, .bool vc] 37) := ⟨_, rfl⟩; rw [← hX]; have K2 : Keeps (fun _ => False) W1 W2 := (by rw [hX]; exact (kD.trans kp).alloc _); have e0 : W2.cell? ⟨w2.heap.size, 0, none⟩ = some (.int .i64 va) := (by rw [hX]; simp); have e1 : W2.cell? ⟨w2.heap.size, 1, none⟩ = some (.int .i64 vb) := (by rw [hX]; simp); have e2 : W2.cell? ⟨w2.heap.size, 2, none⟩ = some (.bool vc) := (by rw [hX]; simp); clear hX) | (obtain ⟨W2, hX⟩ : ∃ x, x = ((w2.setCell ⟨W1.heap.size, 0, none⟩ (.int .i64 va)).setCell ⟨W1.heap.size, 1, none⟩ (.int .i64 vb)).setCell ⟨W1.heap.size, 2, none⟩ (.bool vc) := ⟨_, rfl⟩; rw [← hX]; have k1 : Keeps (fun _ => False) W1 w2 := (by first | exact (((Keeps.refl _ W1).alloc _).drew).trans kp | exact (kD.alloc _).trans kp); have K2 : Keeps (fun _ => False) W1 W2 := (by rw [hX]; exact k1.trans' (keeps_set3 _ W1.heap.size _ _ _) (fun _ _ e => e) (fun i hi e => by omega)); have qS := ((qB.set (o := 0) (by show 0 < 3; decide) (.int .i64 va)).set (o := 1) (by show 1 < 3; decide) (.int .i64 vb)).set (o := 2) (by show 2 < 3; decide) (.bool vc); rw [← hX] at qS; have e0 : W2.cell? ⟨W1.heap.size, 0, none⟩ = some (.int .i64 va) := qS.c 0 _ rfl; have e1 : W2.cell? ⟨W1.heap.size, 1, none⟩ = some (.int .i64 vb) := qS.c 1 _ rfl; have e2 : W2.cell? ⟨W1.heap.size, 2, none⟩ = some (.bool vc) := qS.c 2 _ rfl; clear hX k1 qS qB))
          all_goals
            have c0 := K2.cell c0 id
            have c1 := K2.cell c1 id
            have c2 := K2.cell c2 id
            clear hp2 KB kD p0 p1 p2 p3 o0 o1 o2 o3 o4 o5 o6 o7
            go_wp2_with (go_at_call 15; refine (hnu _ _).mono ?_; rintro e wn ⟨rfl, hwn⟩; rw [← hwn]; clear hwn wn)
            go_ret
            exact ⟨rfl, ρ, D, s, m, H0.out.new (K1.trans K2), Lv.new ((k0.trans K1).trans K2), rfl⟩
      · have n5 : (ok == 5) = false := by simp; omega
        by_cases h7 : ok = 7
        · subst h7
          obtain ⟨v, er, ⟨hp1, hp2⟩, n, rfl⟩ := lk_cu h0 oa ob1
          dsimp only at hp1 hp2
          have H0 : Hid (PP w0 ρ D wb mb qb rb s m) := h0
          clear h0
          go_enter Tryz.func29, Tryz.ntmps29
          refine wp_seq_k (fun KK hKK => ?_)
          have hKH : Hid _ := hKK
          clear hKK
          go_wp2_with fail
          refine hKH.out _ _ ?_
          clear hKH KK
          rw [← HW0.out]
          clear HW0
          go_wp2_with fail
          go_region_held3 (fun w' => w'.cell? ⟨pb, 1, none⟩ = some (.pointer (some ⟨wb, 0, none⟩)) ∧ w'.cell? ⟨w.heap.size, 1, none⟩ = some (.int .i64 oa) ∧ w'.cell? ⟨w.heap.size, 2, none⟩ = some (.int .i64 ob1)) (go_keep) ((go_at_call 60; (with_reducible refine (hp1 _ (Keeps.refl _ w0).drew).mono ?_); rintro e w1 ⟨rfl, kk⟩; have qp := kk.cell (p := ⟨pb, 1, none⟩) (v := .pointer (some ⟨wb, 0, none⟩)) (by simpa using p1) id; have qo1 := kk.cell (p := ⟨w.heap.size, 1, none⟩) (v := .int .i64 oa) (by simpa using o1) id; have qo2 := kk.cell (p := ⟨w.heap.size, 2, none⟩) (v := .int .i64 ob1) (by simpa using o2) id; have nqp := World.new_ne w1 _ qp; have nqo1 := World.new_ne w1 _ qo1; have nqo2 := World.new_ne w1 _ qo2))
          have K1 : Keeps (fun _ => False) w0 w1 := ((Keeps.refl (fun _ => False) w0).drew).trans kk
          clear kk qp hp1
          have p0 := K1.cell p0 id
          have p1 := K1.cell p1 id
          have p2 := K1.cell p2 id
          have p3 := K1.cell p3 id
          have o0 := K1.cell o0 id
          have o1 := K1.cell o1 id
          have o2 := K1.cell o2 id
          have o3 := K1.cell o3 id
          have o4 := K1.cell o4 id
          have o5 := K1.cell o5 id
          have o6 := K1.cell o6 id
          have o7 := K1.cell o7 id
          go_wp2_with fail
          go_region_held3 (fun w' => w'.cell? ⟨pb, 3, none⟩ = some (.pointer (some ⟨qb, 0, none⟩)) ∧ w'.cell? ⟨w.heap.size, 1, none⟩ = some (.int .i64 oa) ∧ w'.cell? ⟨w.heap.size, 2, none⟩ = some (.int .i64 ob1)) (go_keep) ((go_at_call 61; (with_reducible refine (hp2 _ (K1.drew)).mono ?_); rintro e w2 ⟨rfl, kk⟩; have qp := kk.cell (p := ⟨pb, 3, none⟩) (v := .pointer (some ⟨qb, 0, none⟩)) (by simpa using p3) id; have qo1 := kk.cell (p := ⟨w.heap.size, 1, none⟩) (v := .int .i64 oa) (by simpa using o1) id; have qo2 := kk.cell (p := ⟨w.heap.size, 2, none⟩) (v := .int .i64 ob1) (by simpa using o2) id; have nqp := World.new_ne w2 _ qp; have nqo1 := World.new_ne w2 _ qo1; have nqo2 := World.new_ne w2 _ qo2))
          have K2 : Keeps (fun _ => False) w0 w2 := (K1.drew).trans kk
          clear kk qp hp2 K1 p0 p1 p2 p3 o0 o1 o2 o3 o4 o5 o6 o7
          go_wp2_with (go_at_call 15; refine (hnu _ _).mono ?_; rintro e wn ⟨rfl, hwn⟩; rw [← hwn]; clear hwn wn)
          go_ret
          exact ⟨rfl, ρ, D, s, m, H0.out.new K2, Lv.new (k0.trans K2), rfl⟩
        · have n7 : (ok == 7) = false := by simp; omega
          by_cases h15 : ok = 15
          · subst h15
            obtain ⟨v, er, ⟨hp1, hp2⟩, n, rfl⟩ := lk_oc h0 oa
            dsimp only at hp1 hp2
            have H0 : Hid (PP w0 ρ D wb mb qb rb s m) := h0
            clear h0
            go_enter Tryz.func29, Tryz.ntmps29
            refine wp_seq_k (fun KK hKK => ?_)
            have hKH : Hid _ := hKK
            clear hKK
            go_wp2_with fail
            refine hKH.out _ _ ?_
            clear hKH KK
            rw [← HW0.out]
            clear HW0
            go_wp2_with fail
            go_region_held3 (fun w' => w'.cell? ⟨pb, 1, none⟩ = some (.pointer (some ⟨wb, 0, none⟩)) ∧ w'.cell? ⟨w.heap.size, 1, none⟩ = some (.int .i64 oa)) (go_keep) ((go_at_call 50; (with_reducible refine (hp1 _ (Keeps.refl _ w0).drew).mono ?_); rintro e w1 ⟨rfl, kk⟩; have qp := kk.cell (p := ⟨pb, 1, none⟩) (v := .pointer (some ⟨wb, 0, none⟩)) (by simpa using p1) id; have qo1 := kk.cell (p := ⟨w.heap.size, 1, none⟩) (v := .int .i64 oa) (by simpa using o1) id; have nqp := World.new_ne w1 _ qp; have nqo1 := World.new_ne w1 _ qo1))
            have K1 : Keeps (fun _ => False) w0 w1 := ((Keeps.refl (fun _ => False) w0).drew).trans kk
            clear kk qp hp1
            have p0 := K1.cell p0 id
            have p1 := K1.cell p1 id
            have p2 := K1.cell p2 id
            have p3 := K1.cell p3 id
            have o0 := K1.cell o0 id
            have o1 := K1.cell o1 id
            have o2 := K1.cell o2 id
            have o3 := K1.cell o3 id
            have o4 := K1.cell o4 id
            have o5 := K1.cell o5 id
            have o6 := K1.cell o6 id
            have o7 := K1.cell o7 id
            go_wp2_with fail
            go_region_held3 (fun w' => w'.cell? ⟨pb, 3, none⟩ = some (.pointer (some ⟨qb, 0, none⟩)) ∧ w'.cell? ⟨w.heap.size, 1, none⟩ = some (.int .i64 oa)) (go_keep) ((go_at_call 62; (with_reducible refine (hp2 _ (K1.drew)).mono ?_); rintro e w2 ⟨rfl, kk⟩; have qp := kk.cell (p := ⟨pb, 3, none⟩) (v := .pointer (some ⟨qb, 0, none⟩)) (by simpa using p3) id; have qo1 := kk.cell (p := ⟨w.heap.size, 1, none⟩) (v := .int .i64 oa) (by simpa using o1) id; have nqp := World.new_ne w2 _ qp; have nqo1 := World.new_ne w2 _ qo1))
            have K2 : Keeps (fun _ => False) w0 w2 := (K1.drew).trans kk
            clear kk qp hp2 K1 p0 p1 p2 p3 o0 o1 o2 o3 o4 o5 o6 o7
            go_wp2_with (go_at_call 15; refine (hnu _ _).mono ?_; rintro e wn ⟨rfl, hwn⟩; rw [← hwn]; clear hwn wn)
            go_ret
            exact ⟨rfl, ρ, D, s, m, H0.out.new K2, Lv.new (k0.trans K2), rfl⟩
          · have n15 : (ok == 15) = false := by simp; omega
            by_cases h16 : ok = 16
            · subst h16
              obtain ⟨v, er, ⟨hp1, hp2⟩, n, rfl⟩ := lk_sc h0 oa
              dsimp only at hp1 hp2
              have H0 : Hid (PP w0 ρ D wb mb qb rb s m) := h0
              clear h0
              go_enter Tryz.func29, Tryz.ntmps29
              refine wp_seq_k (fun KK hKK => ?_)
              have hKH : Hid _ := hKK
              clear hKK
              go_wp2_with fail
              refine hKH.out _ _ ?_
              clear hKH KK
              rw [← HW0.out]
              clear HW0
              go_wp2_with fail
              go_region_held3 (fun w' => w'.cell? ⟨pb, 1, none⟩ = some (.pointer (some ⟨wb, 0, none⟩)) ∧ w'.cell? ⟨w.heap.size, 1, none⟩ = some (.int .i64 oa)) (go_keep) ((go_at_call 63; (with_reducible refine (hp1 _ (Keeps.refl _ w0).drew).mono ?_); rintro e w1 ⟨rfl, kk⟩; have qp := kk.cell (p := ⟨pb, 1, none⟩) (v := .pointer (some ⟨wb, 0, none⟩)) (by simpa using p1) id; have qo1 := kk.cell (p := ⟨w.heap.size, 1, none⟩) (v := .int .i64 oa) (by simpa using o1) id; have nqp := World.new_ne w1 _ qp; have nqo1 := World.new_ne w1 _ qo1))
              have K1 : Keeps (fun _ => False) w0 w1 := ((Keeps.refl (fun _ => False) w0).drew).trans kk
              clear kk qp hp1
              have p0 := K1.cell p0 id
              have p1 := K1.cell p1 id
              have p2 := K1.cell p2 id
              have p3 := K1.cell p3 id
              have o0 := K1.cell o0 id
              have o1 := K1.cell o1 id
              have o2 := K1.cell o2 id
              have o3 := K1.cell o3 id
              have o4 := K1.cell o4 id
              have o5 := K1.cell o5 id
              have o6 := K1.cell o6 id
              have o7 := K1.cell o7 id
              go_wp2_with fail
              go_region_held3 (fun w' => w'.cell? ⟨pb, 3, none⟩ = some (.pointer (some ⟨qb, 0, none⟩)) ∧ w'.cell? ⟨w.heap.size, 1, none⟩ = some (.int .i64 oa)) (go_keep) ((go_at_call 64; (with_reducible refine (hp2 _ (K1.drew)).mono ?_); rintro e w2 ⟨rfl, kk⟩; have qp := kk.cell (p := ⟨pb, 3, none⟩) (v := .pointer (some ⟨qb, 0, none⟩)) (by simpa using p3) id; have qo1 := kk.cell (p := ⟨w.heap.size, 1, none⟩) (v := .int .i64 oa) (by simpa using o1) id; have nqp := World.new_ne w2 _ qp; have nqo1 := World.new_ne w2 _ qo1))
              have K2 : Keeps (fun _ => False) w0 w2 := (K1.drew).trans kk
              clear kk qp hp2 K1 p0 p1 p2 p3 o0 o1 o2 o3 o4 o5 o6 o7
              go_wp2_with (go_at_call 15; refine (hnu _ _).mono ?_; rintro e wn ⟨rfl, hwn⟩; rw [← hwn]; clear hwn wn)
              go_ret
              exact ⟨rfl, ρ, D, s, m, H0.out.new K2, Lv.new (k0.trans K2), rfl⟩
            · have n16 : (ok == 16) = false := by simp; omega
              by_cases h17 : ok = 17
              · subst h17
                obtain ⟨v, er, ⟨hp1, hp2⟩, n, rfl⟩ := lk_fc h0 oa
                dsimp only at hp1 hp2
                have H0 : Hid (PP w0 ρ D wb mb qb rb s m) := h0
                clear h0
                go_enter Tryz.func29, Tryz.ntmps29
                refine wp_seq_k (fun KK hKK => ?_)
                have hKH : Hid _ := hKK
                clear hKK
                go_wp2_with fail
                refine hKH.out _ _ ?_
                clear hKH KK
                rw [← HW0.out]
                clear HW0
                go_wp2_with fail
                go_region_held3 (fun w' => w'.cell? ⟨pb, 1, none⟩ = some (.pointer (some ⟨wb, 0, none⟩)) ∧ w'.cell? ⟨w.heap.size, 1, none⟩ = some (.int .i64 oa)) (go_keep) ((go_at_call 65; (with_reducible refine (hp1 _ (Keeps.refl _ w0).drew).mono ?_); rintro e w1 ⟨rfl, kk⟩; have qp := kk.cell (p := ⟨pb, 1, none⟩) (v := .pointer (some ⟨wb, 0, none⟩)) (by simpa using p1) id; have qo1 := kk.cell (p := ⟨w.heap.size, 1, none⟩) (v := .int .i64 oa) (by simpa using o1) id; have nqp := World.new_ne w1 _ qp; have nqo1 := World.new_ne w1 _ qo1))
                have K1 : Keeps (fun _ => False) w0 w1 := ((Keeps.refl (fun _ => False) w0).drew).trans kk
                clear kk qp hp1
                have p0 := K1.cell p0 id
                have p1 := K1.cell p1 id
                have p2 := K1.cell p2 id
                have p3 := K1.cell p3 id
                have o0 := K1.cell o0 id
                have o1 := K1.cell o1 id
                have o2 := K1.cell o2 id
                have o3 := K1.cell o3 id
                have o4 := K1.cell o4 id
                have o5 := K1.cell o5 id
                have o6 := K1.cell o6 id
                have o7 := K1.cell o7 id
                go_wp2_with fail
                go_region_held3 (fun w' => w'.cell? ⟨pb, 3, none⟩ = some (.pointer (some ⟨qb, 0, none⟩)) ∧ w'.cell? ⟨w.heap.size, 1, none⟩ = some (.int .i64 oa)) (go_keep) ((go_at_call 66; (with_reducible refine (hp2 _ (K1.drew)).mono ?_); rintro e w2 ⟨rfl, kk⟩; have qp := kk.cell (p := ⟨pb, 3, none⟩) (v := .pointer (some ⟨qb, 0, none⟩)) (by simpa using p3) id; have qo1 := kk.cell (p := ⟨w.heap.size, 1, none⟩) (v := .int .i64 oa) (by simpa using o1) id; have nqp := World.new_ne w2 _ qp; have nqo1 := World.new_ne w2 _ qo1))
                have K2 : Keeps (fun _ => False) w0 w2 := (K1.drew).trans kk
                clear kk qp hp2 K1 p0 p1 p2 p3 o0 o1 o2 o3 o4 o5 o6 o7
                go_wp2_with (go_at_call 15; refine (hnu _ _).mono ?_; rintro e wn ⟨rfl, hwn⟩; rw [← hwn]; clear hwn wn)
                go_ret
                exact ⟨rfl, ρ, D, s, m, H0.out.new K2, Lv.new (k0.trans K2), rfl⟩
              · have n17 : (ok == 17) = false := by simp; omega
                have hco := com_any h0.hp.st h0.iv.wf
                have HNO : Hid (s.objs.length ≤ 80) := h0.iv.no
                have HCL : Hid ((s.com m).length = s.objs.length) := by show _ = _; unfold Ws.com; rw [List.length_map, List.length_range]
                have HRC : Hid (∀ W, Keeps (fun _ => False) w0 W → Calls Tryz.prog 67 #[.pointer (some ⟨qb, 0, none⟩)] W fun e w' => ∃ v, e = .returned v ∧ w'.ownsRow W.heap.size 37 3 v s.objs.length (fl vc3 (s.com m)) ∧ Keeps (fun _ => False) W w') := fun W K => by
                  obtain ⟨sv, σ, B, hw, -⟩ := (h0.new K).hp.di
                  exact rCom_any hw h0.ft hlg h0.iv.wf
                have H0 : Hid (PP w0 ρ D wb mb qb rb s m) := h0
                clear h0
                generalize s.com m = cm at *
                generalize s.objs.length = n at *
                go_enter Tryz.func29, Tryz.ntmps29
                refine wp_seq_k (fun KK hKK => ?_)
                have hKH : Hid _ := hKK
                clear hKK
                go_wp2_with fail
                refine hKH.out _ _ ?_
                clear hKH KK
                rw [← HW0.out]
                clear HW0
                go_wp2_with (first | (go_at_call 22; refine hco.mono ?_; clear hco; rintro e w1 ⟨rfl, hO1, k1⟩; have hrc := HRC.out w1 k1; have p3 := k1.cell p3 id; clear HRC) | (go_at_call 67; refine hrc.mono ?_; clear hrc; rintro e w2 ⟨v2, rfl, hO2, k2⟩; obtain ⟨a2, c2, rfl, hv2, -⟩ := va_own hO2 HCL.out; obtain ⟨a1, c1, e1, hv1, -⟩ := va_own (k2.owns hO1 (fun _ _ e => e)) HCL.out; injection e1 with e1 _ e12; subst e1 e12; have hsm := same_eq hv1 hv2 (by have := HNO.out; have := HCL.out; omega) n c2; rw [HCL.out] at hsm; clear hO1 hO2 hv1 hv2) | (go_at_call 25; refine hsm.mono ?_; clear hsm; rintro e w3 ⟨rfl, k3⟩))
                go_ret
                exact ⟨rfl, ρ, D, s, m, H0.out.new ((k1.trans k2).trans k3), Lv.new (((k0.trans k1).trans k2).trans k3), rfl⟩
end
end Go.Proofs.YtaikngpgmcpecaaGreat
