import Derived.Test.YtaikngpgmcpecaaGreatMG
namespace Go.Proofs.YtaikngpgmcpecaaGreat
open Go.RowKit
def seqTl : Nat → Code → Code
  | 0, c => c
  | n + 1, .seq _ t => seqTl n t
  | _ + 1, c => c
def plT (n : Nat) (f : Func) : Code := match f.body with | some c => seqTl n c | none => .skip
section
variable {w w0 : World} {ρ : Nat → Nat} {D : Nat → Prop} {pb wb mb qb rb : Nat} {s : Ws} {m : Mm}
theorem tw_begin (h : PP w ρ D wb mb qb rb s m) (st th : Int) : ∃ (er : Int) (m' : Mm), lg m' ≤ lg m + 1 ∧
    (∀ W, Keeps (fun _ => False) w W → Calls Tryz.prog 19 #[.pointer (some ⟨mb, 0, none⟩), .int .i64 st, .int .i64 th] W fun e w' => ∃ ρ', e = .returned (.int .i64 er) ∧ HP w' ρ' D wb mb qb rb s m' s m ∧ Lv W w' ρ ρ' D D) ∧
    (∀ W ρ', HP W ρ' D wb mb qb rb s m' s m → Calls Tryz.prog 28 #[.pointer (some ⟨rb, 0, none⟩), .int .i64 st, .int .i64 th] W fun e w' => e = .returned (.int .i64 er) ∧ ∃ D', PP w' ρ' D' wb mb qb rb s m' ∧ Lv W w' ρ' ρ' D D') := by
  cases hm : m.may st th with
  | true =>
    refine ⟨0, m.begin st th, by simp [lg, Mm.begin], fun W K => ?_, fun W ρ' hp => ?_⟩
    · refine (sbegin (h.new K).hp.st st th hm).mono ?_
      rintro e w' ⟨rfl, ρ', hs, xx⟩
      obtain ⟨q1, q2⟩ := (h.new K).half hs xx
      exact ⟨ρ', rfl, q1, q2⟩
    · obtain ⟨sv, σ, B, hw, rfl⟩ := hp.di
      refine (rbegin_ok hw.ri st th hm).mono ?_
      rintro e w' ⟨rfl, hr, l⟩
      obtain ⟨q1, q2⟩ := hp.done ⟨sv, σ, B, hw.mem hr l, rfl⟩ (DW.left l)
      exact ⟨rfl, _, ⟨q1, h.iv.mem st th, h.ft.begin hm, h.cl⟩, q2⟩
  | false =>
    refine ⟨32, m, by omega, fun W K => ?_, fun W ρ' hp => ?_⟩
    · obtain ⟨F, hm1, _⟩ := (h.new K).hp.st.mj
      refine (begin_not hm1 st th hm).mono ?_
      rintro e w' ⟨rfl, rfl⟩
      exact ⟨ρ, rfl, (h.new K).hp, Lv.refl _ _ _⟩
    · obtain ⟨sv, σ, B, hw, rfl⟩ := hp.di
      refine (rbegin_not hw.ri st th hm).mono ?_
      rintro e w' ⟨rfl, rfl⟩
      exact ⟨rfl, _, ⟨hp, h.iv, h.ft, h.cl⟩, Lv.refl _ _ _⟩
set_option maxHeartbeats 1600000 in
set_option maxRecDepth 1000000 in
theorem pl_tail {Q : World → Prop} (h0 : PP w0 ρ D wb mb qb rb s m) (hpb : PBl w0 ρ D pb mb wb rb qb) (ok oa ob1 oc on ox : Int) (ot os : Bool) (hob : OBx w0 ρ D w.heap.size ⟨ok, oa, ob1, oc, ⟨on, ox, ot⟩, os⟩) (hlg : (lg m + 1) * 56 ≤ 140737488355328) (hQ : ∀ w' ρ' D' s' m', PP w' ρ' D' wb mb qb rb s' m' → Lv w0 w' ρ ρ' D D' → lg m' = lg m → Q w') {x1 x2 x3 x5 x7 x8 x9 x10 x11 x12 x13 x14 x15 x16 x17 x18 x19 x20 x21 x22 x23 x24 x25 x26 x27 x28 x29 x30 x31 x32 x33 x34 x35 x36 x37 x38 x39 x40 x41 x42 x43 x44 x45 x46 x47 x48 x49 x50 x51 x52 x53 x54 x55 x56 x57 x58 x59 x60 x61 x62 x63 x64 x65 x66 x67 x68 x69 x70 x71 x72 x73 x74 x75 x76 x77 x78 x79 x80 x81 x82 x83 x84 x85 x86 x87 x88 x89 x90 x91 x92 x93 x94 x95 x96 x97 x98 x99 x100 x101 x102 x103 x104 x105 x106 x107 x108 x109 x110 x111 x112 x113 x114 x115 x116 x117 x118 x119 x120 x121 x122 x123 x124 x125 x126 x127 x128 x129 x130 x131 x132 x133 x134 x135 : Value} : (plT 2 Tryz.f7).wp Tryz.prog (bodyPost Tryz.prog Tryz.f7 (fun e w' => e = .returned (.bool true) ∧ Q w')) { tmps := #[.pointer (some ⟨pb, 0, none⟩), x1, x2, x3, .pointer (some ⟨w.heap.size, 0, none⟩), x5, .bool false, x7, x8, x9, x10, x11, x12, x13, x14, x15, x16, x17, x18, x19, x20, x21, x22, x23, x24, x25, x26, x27, x28, x29, x30, x31, x32, x33, x34, x35, x36, x37, x38, x39, x40, x41, x42, x43, x44, x45, x46, x47, x48, x49, x50, x51, x52, x53, x54, x55, x56, x57, x58, x59, x60, x61, x62, x63, x64, x65, x66, x67, x68, x69, x70, x71, x72, x73, x74, x75, x76, x77, x78, x79, x80, x81, x82, x83, x84, x85, x86, x87, x88, x89, x90, x91, x92, x93, x94, x95, x96, x97, x98, x99, x100, x101, x102, x103, x104, x105, x106, x107, x108, x109, x110, x111, x112, x113, x114, x115, x116, x117, x118, x119, x120, x121, x122, x123, x124, x125, x126, x127, x128, x129, x130, x131, x132, x133, x134, x135], defers := [] } w0 := by
  have HOB : Hid (OBx w0 ρ D w.heap.size ⟨ok, oa, ob1, oc, ⟨on, ox, ot⟩, os⟩) := hob
  have HPB : Hid (PBl w0 ρ D pb mb wb rb qb) := hpb
  have HQ : Hid (∀ w' ρ' D' s' m', PP w' ρ' D' wb mb qb rb s' m' → Lv w0 w' ρ ρ' D D' → lg m' = lg m → Q w') := hQ
  have hnu := fun W x => num_of W x
  have hlog : (m.log.length + 1) * 56 ≤ 140737488355328 := by have := lg_log m; omega
  have p0 := hpb.c0
  have p1 := hpb.c1
  have p2 := hpb.c2
  have p3 := hpb.c3
  have pz := hpb.z
  have pd := hpb.d
  have o0 := hob.c0
  have o1 := hob.c1
  have o2 := hob.c2
  have o3 := hob.c3
  have o4 := hob.c4
  have o5 := hob.c5
  have o6 := hob.c6
  have o7 := hob.c7
  have oz := hob.z
  have od := hob.d
  clear hob hpb hQ
  dsimp only at o0 o1 o2 o3 o4 o5 o6 o7
  by_cases h2 : ok = 2
  · subst h2
    have hcl := looks_any h0 HPB.out (by omega) 2 oa ob1 oc on ox ot os
    dsimp only [plT, seqTl, Tryz.f7]
    go_wp2_with (go_at_call 29; refine hcl.mono ?_; clear hcl; rintro e w3 ⟨rfl, ρ3, D3, s3, m3, h3, lv3, lg3⟩)
    go_ret
    exact ⟨rfl, HQ.out w3 ρ3 D3 s3 m3 h3 lv3 lg3⟩
  have n2 : (ok == 2) = false := by simp; omega
  by_cases h4 : ok = 4
  · subst h4
    have hcl := looks_any h0 HPB.out (by omega) 4 oa ob1 oc on ox ot os
    dsimp only [plT, seqTl, Tryz.f7]
    go_wp2_with (go_at_call 29; refine hcl.mono ?_; clear hcl; rintro e w3 ⟨rfl, ρ3, D3, s3, m3, h3, lv3, lg3⟩)
    go_ret
    exact ⟨rfl, HQ.out w3 ρ3 D3 s3 m3 h3 lv3 lg3⟩
  have n4 : (ok == 4) = false := by simp; omega
  by_cases h5 : ok = 5
  · subst h5
    have hcl := looks_any h0 HPB.out (by omega) 5 oa ob1 oc on ox ot os
    dsimp only [plT, seqTl, Tryz.f7]
    go_wp2_with (go_at_call 29; refine hcl.mono ?_; clear hcl; rintro e w3 ⟨rfl, ρ3, D3, s3, m3, h3, lv3, lg3⟩)
    go_ret
    exact ⟨rfl, HQ.out w3 ρ3 D3 s3 m3 h3 lv3 lg3⟩
  have n5 : (ok == 5) = false := by simp; omega
  by_cases h7 : ok = 7
  · subst h7
    have hcl := looks_any h0 HPB.out (by omega) 7 oa ob1 oc on ox ot os
    dsimp only [plT, seqTl, Tryz.f7]
    go_wp2_with (go_at_call 29; refine hcl.mono ?_; clear hcl; rintro e w3 ⟨rfl, ρ3, D3, s3, m3, h3, lv3, lg3⟩)
    go_ret
    exact ⟨rfl, HQ.out w3 ρ3 D3 s3 m3 h3 lv3 lg3⟩
  have n7 : (ok == 7) = false := by simp; omega
  by_cases h15 : ok = 15
  · subst h15
    have hcl := looks_any h0 HPB.out (by omega) 15 oa ob1 oc on ox ot os
    dsimp only [plT, seqTl, Tryz.f7]
    go_wp2_with (go_at_call 29; refine hcl.mono ?_; clear hcl; rintro e w3 ⟨rfl, ρ3, D3, s3, m3, h3, lv3, lg3⟩)
    go_ret
    exact ⟨rfl, HQ.out w3 ρ3 D3 s3 m3 h3 lv3 lg3⟩
  have n15 : (ok == 15) = false := by simp; omega
  by_cases h16 : ok = 16
  · subst h16
    have hcl := looks_any h0 HPB.out (by omega) 16 oa ob1 oc on ox ot os
    dsimp only [plT, seqTl, Tryz.f7]
    go_wp2_with (go_at_call 29; refine hcl.mono ?_; clear hcl; rintro e w3 ⟨rfl, ρ3, D3, s3, m3, h3, lv3, lg3⟩)
    go_ret
    exact ⟨rfl, HQ.out w3 ρ3 D3 s3 m3 h3 lv3 lg3⟩
  have n16 : (ok == 16) = false := by simp; omega
  by_cases h17 : ok = 17
  · subst h17
    have hcl := looks_any h0 HPB.out (by omega) 17 oa ob1 oc on ox ot os
    dsimp only [plT, seqTl, Tryz.f7]
    go_wp2_with (go_at_call 29; refine hcl.mono ?_; clear hcl; rintro e w3 ⟨rfl, ρ3, D3, s3, m3, h3, lv3, lg3⟩)
    go_ret
    exact ⟨rfl, HQ.out w3 ρ3 D3 s3 m3 h3 lv3 lg3⟩
  have n17 : (ok == 17) = false := by simp; omega
  by_cases h18 : ok = 18
  · subst h18
    have hcl := looks_any h0 HPB.out (by omega) 18 oa ob1 oc on ox ot os
    dsimp only [plT, seqTl, Tryz.f7]
    go_wp2_with (go_at_call 29; refine hcl.mono ?_; clear hcl; rintro e w3 ⟨rfl, ρ3, D3, s3, m3, h3, lv3, lg3⟩)
    go_ret
    exact ⟨rfl, HQ.out w3 ρ3 D3 s3 m3 h3 lv3 lg3⟩
  have n18 : (ok == 18) = false := by simp; omega
  by_cases h1 : ok = 1
  · subst h1
    have hcl := makes_any h0 HPB.out hlog 1 oa ob1 oc on ox ot os
    dsimp only [plT, seqTl, Tryz.f7]
    go_wp2_with (go_at_call 30; refine hcl.mono ?_; clear hcl; rintro e w3 ⟨rfl, ρ3, D3, s3, m3, h3, lv3, lg3⟩)
    go_ret
    exact ⟨rfl, HQ.out w3 ρ3 D3 s3 m3 h3 lv3 lg3⟩
  have n1 : (ok == 1) = false := by simp; omega
  by_cases h3 : ok = 3
  · subst h3
    have hcl := makes_any h0 HPB.out hlog 3 oa ob1 oc on ox ot os
    dsimp only [plT, seqTl, Tryz.f7]
    go_wp2_with (go_at_call 30; refine hcl.mono ?_; clear hcl; rintro e w3 ⟨rfl, ρ3, D3, s3, m3, h3, lv3, lg3⟩)
    go_ret
    exact ⟨rfl, HQ.out w3 ρ3 D3 s3 m3 h3 lv3 lg3⟩
  have n3 : (ok == 3) = false := by simp; omega
  by_cases h6 : ok = 6
  · subst h6
    have hcl := makes_any h0 HPB.out hlog 6 oa ob1 oc on ox ot os
    dsimp only [plT, seqTl, Tryz.f7]
    go_wp2_with (go_at_call 30; refine hcl.mono ?_; clear hcl; rintro e w3 ⟨rfl, ρ3, D3, s3, m3, h3, lv3, lg3⟩)
    go_ret
    exact ⟨rfl, HQ.out w3 ρ3 D3 s3 m3 h3 lv3 lg3⟩
  have n6 : (ok == 6) = false := by simp; omega
  by_cases h19 : ok = 19
  · subst h19
    have hcl := makes_any h0 HPB.out hlog 19 oa ob1 oc on ox ot os
    dsimp only [plT, seqTl, Tryz.f7]
    go_wp2_with (go_at_call 30; refine hcl.mono ?_; clear hcl; rintro e w3 ⟨rfl, ρ3, D3, s3, m3, h3, lv3, lg3⟩)
    go_ret
    exact ⟨rfl, HQ.out w3 ρ3 D3 s3 m3 h3 lv3 lg3⟩
  have n19 : (ok == 19) = false := by simp; omega
  by_cases h20 : ok = 20
  · subst h20
    have hcl := bulk_any h0 HPB.out hlg 20 oa ob1 oc on ox ot os
    dsimp only [plT, seqTl, Tryz.f7]
    go_wp2_with (go_at_call 24; refine hcl.mono ?_; clear hcl; rintro e w3 ⟨rfl, ρ3, D3, s3, m3, h3, lv3, lg3⟩)
    go_ret
    exact ⟨rfl, HQ.out w3 ρ3 D3 s3 m3 h3 lv3 lg3⟩
  have n20 : (ok == 20) = false := by simp; omega
  by_cases h21 : ok = 21
  · subst h21
    have hcl := bulk_any h0 HPB.out hlg 21 oa ob1 oc on ox ot os
    dsimp only [plT, seqTl, Tryz.f7]
    go_wp2_with (go_at_call 24; refine hcl.mono ?_; clear hcl; rintro e w3 ⟨rfl, ρ3, D3, s3, m3, h3, lv3, lg3⟩)
    go_ret
    exact ⟨rfl, HQ.out w3 ρ3 D3 s3 m3 h3 lv3 lg3⟩
  have n21 : (ok == 21) = false := by simp; omega
  by_cases h22 : ok = 22
  · subst h22
    have hcl := bulk_any h0 HPB.out hlg 22 oa ob1 oc on ox ot os
    dsimp only [plT, seqTl, Tryz.f7]
    go_wp2_with (go_at_call 24; refine hcl.mono ?_; clear hcl; rintro e w3 ⟨rfl, ρ3, D3, s3, m3, h3, lv3, lg3⟩)
    go_ret
    exact ⟨rfl, HQ.out w3 ρ3 D3 s3 m3 h3 lv3 lg3⟩
  have n22 : (ok == 22) = false := by simp; omega
  by_cases h9 : ok = 9
  · subst h9
    have hcl := swaps_any h0 HPB.out hlog 9 oa ob1 oc on ox ot os
    dsimp only [plT, seqTl, Tryz.f7]
    go_wp2_with (go_at_call 31; refine hcl.mono ?_; clear hcl; rintro e w3 ⟨rfl, ρ3, D3, s3, m3, h3, lv3, lg3⟩)
    go_ret
    exact ⟨rfl, HQ.out w3 ρ3 D3 s3 m3 h3 lv3 lg3⟩
  have n9 : (ok == 9) = false := by simp; omega
  by_cases h11 : ok = 11
  · subst h11
    have hcl := swaps_any h0 HPB.out hlog 11 oa ob1 oc on ox ot os
    dsimp only [plT, seqTl, Tryz.f7]
    go_wp2_with (go_at_call 31; refine hcl.mono ?_; clear hcl; rintro e w3 ⟨rfl, ρ3, D3, s3, m3, h3, lv3, lg3⟩)
    go_ret
    exact ⟨rfl, HQ.out w3 ρ3 D3 s3 m3 h3 lv3 lg3⟩
  have n11 : (ok == 11) = false := by simp; omega
  by_cases h12 : ok = 12
  · subst h12
    have hcl := swaps_any h0 HPB.out hlog 12 oa ob1 oc on ox ot os
    dsimp only [plT, seqTl, Tryz.f7]
    go_wp2_with (go_at_call 31; refine hcl.mono ?_; clear hcl; rintro e w3 ⟨rfl, ρ3, D3, s3, m3, h3, lv3, lg3⟩)
    go_ret
    exact ⟨rfl, HQ.out w3 ρ3 D3 s3 m3 h3 lv3 lg3⟩
  have n12 : (ok == 12) = false := by simp; omega
  by_cases h13 : ok = 13
  · subst h13
    have hcl := swaps_any h0 HPB.out hlog 13 oa ob1 oc on ox ot os
    dsimp only [plT, seqTl, Tryz.f7]
    go_wp2_with (go_at_call 31; refine hcl.mono ?_; clear hcl; rintro e w3 ⟨rfl, ρ3, D3, s3, m3, h3, lv3, lg3⟩)
    go_ret
    exact ⟨rfl, HQ.out w3 ρ3 D3 s3 m3 h3 lv3 lg3⟩
  have n13 : (ok == 13) = false := by simp; omega
  by_cases h14 : ok = 14
  · subst h14
    have hcl := swaps_any h0 HPB.out hlog 14 oa ob1 oc on ox ot os
    dsimp only [plT, seqTl, Tryz.f7]
    go_wp2_with (go_at_call 31; refine hcl.mono ?_; clear hcl; rintro e w3 ⟨rfl, ρ3, D3, s3, m3, h3, lv3, lg3⟩)
    go_ret
    exact ⟨rfl, HQ.out w3 ρ3 D3 s3 m3 h3 lv3 lg3⟩
  have n14 : (ok == 14) = false := by simp; omega
  by_cases h8 : ok = 8
  · subst h8
    have tw := tw_load h0 hlog (o := ⟨8, oa, ob1, oc, ⟨on, ox, ot⟩, os⟩) rfl
    obtain ⟨hp1, hp2⟩ := tw
    dsimp only at hp1 hp2
    have h0c := h0
    clear h0
    dsimp only [plT, seqTl, Tryz.f7]
    go_wp2_with fail
    go_region_held3 (fun w' => w'.cell? ⟨pb, 1, none⟩ = some (.pointer (some ⟨wb, 0, none⟩)) ∧ w'.cell? ⟨w.heap.size, 1, none⟩ = some (.int .i64 oa)) (go_keep) ((go_at_call 32; (with_reducible refine (hp1 _ (Keeps.refl _ w0).drew).mono ?_); rintro e w1 ⟨er, n, ρ1, s1, m1, rfl, hd, hh, lv⟩; have qp := lv.cell (p := ⟨pb, 1, none⟩) (v := .pointer (some ⟨wb, 0, none⟩)) (by simpa using p1) pz pd; have qo1 := lv.cell (p := ⟨w.heap.size, 1, none⟩) (v := .int .i64 oa) (by simpa using o1) oz od))
    have lv1 : Lv w0 w1 ρ ρ1 D D := (Lv.new (Keeps.refl _ w0).drew).trans lv
    have pbl1 := HPB.out.lv lv1
    have obx1 := HOB.out.lv lv1
    clear lv p0 p1 p2 p3 pz pd o0 o1 o2 o3 o4 o5 o6 o7 oz od hp1
    have p0 := pbl1.c0
    have p1 := pbl1.c1
    have p2 := pbl1.c2
    have p3 := pbl1.c3
    have pz := pbl1.z
    have pd := pbl1.d
    have o0 := obx1.c0
    have o1 := obx1.c1
    have o2 := obx1.c2
    have o3 := obx1.c3
    have o4 := obx1.c4
    have o5 := obx1.c5
    have o6 := obx1.c6
    have o7 := obx1.c7
    have oz := obx1.z
    have od := obx1.d
    clear pbl1 obx1
    go_wp2_with fail
    go_region_held3 (fun w' => w'.cell? ⟨pb, 3, none⟩ = some (.pointer (some ⟨qb, 0, none⟩)) ∧ w'.cell? ⟨w.heap.size, 1, none⟩ = some (.int .i64 oa)) (go_keep) ((go_at_call 33; (with_reducible refine (hp2 _ ρ1 s1 m1 er n hd (hh.new (Keeps.refl _ w1).drew)).mono ?_); rintro e w2 ⟨rfl, D2, hpp, lv⟩; have qp := lv.cell (p := ⟨pb, 3, none⟩) (v := .pointer (some ⟨qb, 0, none⟩)) (by simpa using p3) pz pd; have qo1 := lv.cell (p := ⟨w.heap.size, 1, none⟩) (v := .int .i64 oa) (by simpa using o1) oz od))
    have lv2 : Lv w0 w2 ρ ρ1 D D2 := (lv1.trans (Lv.new (Keeps.refl _ w1).drew)).trans lv
    have HPP : Hid (PP w2 ρ1 D2 wb mb qb rb _ m1) := hpp
    have HLV : Hid (Lv w0 w2 ρ ρ1 D D2) := lv2
    have HLG : Hid (lg m1 = lg m) := hd.lg
    clear lv hpp lv1 lv2 hp2 hh p0 p1 p2 p3 pz pd o0 o1 o2 o3 o4 o5 o6 o7 oz od
    go_wp2_with (go_at_call 15; refine (hnu _ _).mono ?_; rintro e wn ⟨rfl, hwn⟩; rw [← hwn]; clear hwn wn)
    go_ret
    exact ⟨rfl, HQ.out w2 ρ1 D2 _ m1 HPP.out HLV.out HLG.out⟩
  have n8 : (ok == 8) = false := by simp; omega
  by_cases h10 : ok = 10
  · subst h10
    have tw := tw_stat h0 hlog (o := ⟨10, oa, ob1, oc, ⟨on, ox, ot⟩, os⟩) rfl
    obtain ⟨hp1, hp2⟩ := tw
    dsimp only at hp1 hp2
    have h0c := h0
    clear h0
    dsimp only [plT, seqTl, Tryz.f7]
    go_wp2_with fail
    go_region_held3 (fun w' => w'.cell? ⟨pb, 1, none⟩ = some (.pointer (some ⟨wb, 0, none⟩)) ∧ w'.cell? ⟨w.heap.size, 1, none⟩ = some (.int .i64 oa)) (go_keep) ((go_at_call 34; (with_reducible refine (hp1 _ (Keeps.refl _ w0).drew).mono ?_); rintro e w1 ⟨er, n, ρ1, s1, m1, rfl, hd, hh, lv⟩; have qp := lv.cell (p := ⟨pb, 1, none⟩) (v := .pointer (some ⟨wb, 0, none⟩)) (by simpa using p1) pz pd; have qo1 := lv.cell (p := ⟨w.heap.size, 1, none⟩) (v := .int .i64 oa) (by simpa using o1) oz od))
    have lv1 : Lv w0 w1 ρ ρ1 D D := (Lv.new (Keeps.refl _ w0).drew).trans lv
    have pbl1 := HPB.out.lv lv1
    have obx1 := HOB.out.lv lv1
    clear lv p0 p1 p2 p3 pz pd o0 o1 o2 o3 o4 o5 o6 o7 oz od hp1
    have p0 := pbl1.c0
    have p1 := pbl1.c1
    have p2 := pbl1.c2
    have p3 := pbl1.c3
    have pz := pbl1.z
    have pd := pbl1.d
    have o0 := obx1.c0
    have o1 := obx1.c1
    have o2 := obx1.c2
    have o3 := obx1.c3
    have o4 := obx1.c4
    have o5 := obx1.c5
    have o6 := obx1.c6
    have o7 := obx1.c7
    have oz := obx1.z
    have od := obx1.d
    clear pbl1 obx1
    go_wp2_with fail
    go_region_held3 (fun w' => w'.cell? ⟨pb, 3, none⟩ = some (.pointer (some ⟨qb, 0, none⟩)) ∧ w'.cell? ⟨w.heap.size, 1, none⟩ = some (.int .i64 oa)) (go_keep) ((go_at_call 35; (with_reducible refine (hp2 _ ρ1 s1 m1 er n hd (hh.new (Keeps.refl _ w1).drew)).mono ?_); rintro e w2 ⟨rfl, D2, hpp, lv⟩; have qp := lv.cell (p := ⟨pb, 3, none⟩) (v := .pointer (some ⟨qb, 0, none⟩)) (by simpa using p3) pz pd; have qo1 := lv.cell (p := ⟨w.heap.size, 1, none⟩) (v := .int .i64 oa) (by simpa using o1) oz od))
    have lv2 : Lv w0 w2 ρ ρ1 D D2 := (lv1.trans (Lv.new (Keeps.refl _ w1).drew)).trans lv
    have HPP : Hid (PP w2 ρ1 D2 wb mb qb rb _ m1) := hpp
    have HLV : Hid (Lv w0 w2 ρ ρ1 D D2) := lv2
    have HLG : Hid (lg m1 = lg m) := hd.lg
    clear lv hpp lv1 lv2 hp2 hh p0 p1 p2 p3 pz pd o0 o1 o2 o3 o4 o5 o6 o7 oz od
    go_wp2_with (go_at_call 15; refine (hnu _ _).mono ?_; rintro e wn ⟨rfl, hwn⟩; rw [← hwn]; clear hwn wn)
    go_ret
    exact ⟨rfl, HQ.out w2 ρ1 D2 _ m1 HPP.out HLV.out HLG.out⟩
  have n10 : (ok == 10) = false := by simp; omega
  have HPP : Hid (PP w0 ρ D wb mb qb rb s m) := h0
  clear h0
  dsimp only [plT, seqTl, Tryz.f7]
  go_wp2_with fail
  go_ret
  exact ⟨rfl, HQ.out w0 ρ D s m HPP.out (Lv.refl _ _ _) rfl⟩
end
end Go.Proofs.YtaikngpgmcpecaaGreat
namespace Go.Proofs.YtaikngpgmcpecaaGreat
open Go.RowKit
section
variable {w : World} {ρ : Nat → Nat} {D : Nat → Prop} {pb wb mb qb rb : Nat} {s : Ws} {m : Mm}
/-- What a step of the script leaves. -/
def PS (w : World) (ρ : Nat → Nat) (D : Nat → Prop) (wb mb qb rb : Nat) (m : Mm) (w' : World) : Prop := ∃ ρ' D' s' m', PP w' ρ' D' wb mb qb rb s' m' ∧ Lv w w' ρ ρ' D D' ∧ lg m' ≤ lg m + 1
set_option maxHeartbeats 1600000 in
set_option maxRecDepth 1000000 in
theorem plays_any (h : PP w ρ D wb mb qb rb s m) (hp : PBl w ρ D pb mb wb rb qb) (hlg : (lg m + 2) * 56 ≤ 140737488355328) (ok oa ob1 oc on ox : Int) (ot os : Bool) (step : Int) : Calls Tryz.prog 7 #[.pointer (some ⟨pb, 0, none⟩), .agg #[.int .i64 ok, .int .i64 oa, .int .i64 ob1, .int .i64 oc, .int .i64 on, .int .i64 ox, .bool ot, .bool os], .int .i64 step] w fun e w' => e = .returned (.bool true) ∧ PS w ρ D wb mb qb rb m w' := by
  obtain ⟨w0, hw0⟩ : ∃ x, x = w.alloc (.cells #[.int .i64 ok, .int .i64 oa, .int .i64 ob1, .int .i64 oc, .int .i64 on, .int .i64 ox, .bool ot, .bool os] 39) := ⟨_, rfl⟩
  have k0 : Keeps (fun _ => False) w w0 := by rw [hw0]; exact (Keeps.refl _ w).alloc _
  have h0 := h.new k0
  have hob : OBx w0 ρ D w.heap.size ⟨ok, oa, ob1, oc, ⟨on, ox, ot⟩, os⟩ := h.box ⟨ok, oa, ob1, oc, ⟨on, ox, ot⟩, os⟩ hw0
  have hpb := hp.lv (Lv.new (ρ := ρ) (D := D) k0)
  have HOB : Hid (OBx w0 ρ D w.heap.size ⟨ok, oa, ob1, oc, ⟨on, ox, ot⟩, os⟩) := hob
  have HPB : Hid (PBl w0 ρ D pb mb wb rb qb) := hpb
  have HW0 : Hid (w0 = w.alloc (.cells #[.int .i64 ok, .int .i64 oa, .int .i64 ob1, .int .i64 oc, .int .i64 on, .int .i64 ox, .bool ot, .bool os] 39)) := hw0
  have hnu := fun W x => num_of W x
  have p0 := hpb.c0
  have p1 := hpb.c1
  have p2 := hpb.c2
  have p3 := hpb.c3
  have pz := hpb.z
  have pd := hpb.d
  have o0 := hob.c0
  have o1 := hob.c1
  have o2 := hob.c2
  have o3 := hob.c3
  have o4 := hob.c4
  have o5 := hob.c5
  have o6 := hob.c6
  have o7 := hob.c7
  have oz := hob.z
  have od := hob.d
  clear hw0 hob hpb h hp
  dsimp only at o0 o1 o2 o3 o4 o5 o6 o7
  have HK0 : Hid (Keeps (fun _ => False) w w0) := k0
  go_enter Tryz.func7, Tryz.ntmps7
  refine wp_seq_k (fun KK hKK => ?_)
  have hKH : Hid _ := hKK
  clear hKK
  go_wp2_with fail
  refine hKH.out _ _ ?_
  clear hKH KK
  rw [← HW0.out]
  clear HW0
  refine wp_seq_k (fun KK hKK => ?_)
  have hKH : Hid _ := hKK
  clear hKK
  cases os with
  | true =>
    go_wp2_with fail
    refine hKH.out _ _ ?_
    clear hKH KK
    exact pl_tail h0 HPB.out _ oa ob1 oc on ox ot true HOB.out (by omega) (fun w' ρ' D' s' m' q1 q2 q3 => ⟨ρ', D', s', m', q1, (Lv.new HK0.out).trans q2, by omega⟩)
  | false =>
    obtain ⟨er, m1, hl1, hb1, hb2⟩ := tw_begin h0 step 0
    have hb1' := hb1 w0 (Keeps.refl _ _)
    clear hb1 h0
    go_wp2_with (first | (go_at_call 19; refine hb1'.mono ?_; clear hb1'; rintro e w1 ⟨ρ1, rfl, hh, lv⟩; have p2 := lv.cell p2 pz pd; have hb3 := hb2 w1 ρ1 hh; clear hb2 hh) | (go_at_call 28; refine hb3.mono ?_; clear hb3; rintro e w2 ⟨rfl, D2, hpp, lv2⟩) | (go_at_call 15; refine (hnu _ _).mono ?_; rintro e wn ⟨rfl, hwn⟩; rw [← hwn]; clear hwn wn))
    refine hKH.out _ _ ?_
    clear hKH KK
    have LV := lv.trans lv2
    exact pl_tail hpp (HPB.out.lv LV) _ oa ob1 oc on ox ot false (HOB.out.lv LV) (by omega) (fun w' ρ' D' s' m' q1 q2 q3 => ⟨ρ', D', s', m', q1, (Lv.new HK0.out).trans (LV.trans q2), by omega⟩)
end
end Go.Proofs.YtaikngpgmcpecaaGreat
