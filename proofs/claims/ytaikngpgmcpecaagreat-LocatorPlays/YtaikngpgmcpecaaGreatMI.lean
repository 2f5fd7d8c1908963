import Derived.Test.YtaikngpgmcpecaaGreatMH
namespace Go.Proofs.YtaikngpgmcpecaaGreat
open Go.RowKit
/-- Two memories: the program's (a call ahead) and the document's. -/
structure HM (w : World) (ρ : Nat → Nat) (D : Nat → Prop) (mb rb : Nat) (m' m : Mm) : Prop where
  bn : Bnd w ρ
  mj : MJ w ρ 1 mb m'
  ri : RI w rb m D
  dz : ∀ k, D k → ρ k = 0
structure PM (w : World) (ρ : Nat → Nat) (D : Nat → Prop) (mb rb : Nat) (m : Mm) : Prop where
  hm : HM w ρ D mb rb m m
  ft : m.fit
  cl : m.cells.length ≤ 65536
section
variable {w w' : World} {ρ ρ' : Nat → Nat} {D D' : Nat → Prop} {pb mb rb : Nat} {m m' : Mm}
theorem HM.new (h : HM w ρ D mb rb m' m) (k : Keeps (fun _ => False) w w') : HM w' ρ D mb rb m' m :=
  have x := Ext.alloc (S := fun _ => False) h.bn k
  ⟨x.2, h.mj.ext x.1 (fun e => e), h.ri.new k, h.dz⟩
theorem PM.new (h : PM w ρ D mb rb m) (k : Keeps (fun _ => False) w w') : PM w' ρ D mb rb m := ⟨h.hm.new k, h.ft, h.cl⟩
theorem PM.half (h : PM w ρ D mb rb m) (k : MJ w' ρ' 1 mb m' ∧ Ext (fun r => r = 1) w w' ρ ρ' ∧ Bnd w' ρ') : HM w' ρ' D mb rb m' m ∧ Lv w w' ρ ρ' D D := by
  obtain ⟨hj, x, hb⟩ := k
  refine ⟨⟨hb, hj, h.hm.ri.keep x.keeps (fun i hi e => by rw [h.hm.dz i hi] at e; cases e), fun i hi => ?_⟩, x.keeps.mono (fun i _ e => .inl (by rw [e]; decide)), fun i hi h1 h2 => ⟨?_, h2⟩⟩
  · rw [x.old i (h.hm.ri.lt hi)]
    exact h.hm.dz i hi
  · rw [x.old i hi]
    exact h1
theorem HM.done (h : HM w ρ D mb rb m' m) (hr : RI w' rb m' D') (l : LeftP w w' D D') : HM w' ρ D' mb rb m' m' ∧ Lv w w' ρ ρ D D' := by
  have x : Ext (fun r => r = 0) w w' ρ ρ := ⟨l.keeps.mono (fun i _ e => h.dz i e), fun _ _ => rfl, fun i hi => .inr (h.bn i hi)⟩
  refine ⟨⟨fun i hi => h.bn i (Nat.le_trans l.keeps.size hi), h.mj.ext x (by decide), hr, fun k hk => ?_⟩, l.keeps.mono (fun _ _ e => .inr e), fun k hk h1 h2 => ⟨h1, fun e => ?_⟩⟩
  · exact (l.old k hk).elim (h.dz k) (h.bn k)
  · exact (l.old k e).elim h2 (fun e => by omega)
theorem tw_cellm (h : PM w ρ D mb rb m) (x : Int) : ∃ (c er : Int) (m' : Mm), lg m' = lg m ∧
    (∀ W, Keeps (fun _ => False) w W → Calls Tryz.prog 71 #[.pointer (some ⟨mb, 0, none⟩), .int .i64 x] W fun e w' => ∃ ρ', e = .returned (.tuple #[.int .i64 c, .int .i64 er]) ∧ HM w' ρ' D mb rb m' m ∧ Lv W w' ρ ρ' D D) ∧
    (∀ W ρ', HM W ρ' D mb rb m' m → Calls Tryz.prog 72 #[.pointer (some ⟨rb, 0, none⟩), .int .i64 x] W fun e w' => e = .returned (.tuple #[.int .i64 c, .int .i64 er]) ∧ ∃ D', PM w' ρ' D' mb rb m' ∧ Lv W w' ρ' ρ' D D') := by
  by_cases hl : m.cells.length < 65536
  · refine ⟨m.cells.length, 0, m.make x, rfl, fun W K => ?_, fun W ρ' hp => ?_⟩
    · obtain ⟨F, hm1, hF⟩ := (h.new K).hm.mj
      refine (make_any hm1 x hl).mono ?_
      rintro e w' ⟨rfl, F', h', l⟩
      obtain ⟨ρ', k⟩ := MJ.next hF h' l
      obtain ⟨q1, q2⟩ := (h.new K).half k
      exact ⟨ρ', rfl, q1, q2⟩
    · refine (rmake_any hp.ri x hl).mono ?_
      rintro e w' ⟨rfl, B', hr, l⟩
      obtain ⟨q1, q2⟩ := hp.done hr l
      exact ⟨rfl, _, ⟨q1, h.ft.make x, by rw [Mm.len_make]; omega⟩, q2⟩
  · refine ⟨0, 33, m, rfl, fun W K => ?_, fun W ρ' hp => ?_⟩
    · obtain ⟨F, hm1, _⟩ := (h.new K).hm.mj
      refine (make_full hm1 x (by omega)).mono ?_
      rintro e w' ⟨rfl, rfl⟩
      exact ⟨ρ, rfl, (h.new K).hm, Lv.refl _ _ _⟩
    · refine (rmake_full hp.ri x (by omega)).mono ?_
      rintro e w' ⟨rfl, rfl⟩
      exact ⟨rfl, _, ⟨hp, h.ft, h.cl⟩, Lv.refl _ _ _⟩
/-- The pair's block, its worlds not yet made. -/
structure PBm (w : World) (ρ : Nat → Nat) (D : Nat → Prop) (pb mb rb : Nat) : Prop where
  c0 : w.cell? ⟨pb, 0, none⟩ = some (.pointer (some ⟨mb, 0, none⟩))
  c2 : w.cell? ⟨pb, 2, none⟩ = some (.pointer (some ⟨rb, 0, none⟩))
  z : ρ pb = 0
  d : ¬ D pb
theorem PBm.lv (h : PBm w ρ D pb mb rb) (l : Lv w w' ρ ρ' D D') : PBm w' ρ' D' pb mb rb :=
  have q := l.old pb (World.block_lt_of_cell? _ _ h.c0) h.z h.d
  ⟨l.cell h.c0 h.z h.d, l.cell h.c2 h.z h.d, q.1, q.2⟩
theorem PM.box (h : PM w ρ D mb rb m) (o : Oq) {w0 : World} (hw : w0 = w.alloc (.cells #[.int .i64 o.kind, .int .i64 o.a, .int .i64 o.b, .int .i64 o.c, .int .i64 o.v.num, .int .i64 o.v.next, .bool o.v.dead, .bool o.shut] 39)) : OBx w0 ρ D w.heap.size o := by
  refine ⟨by rw [hw]; simp, by rw [hw]; simp, by rw [hw]; simp, by rw [hw]; simp, by rw [hw]; simp, by rw [hw]; simp, by rw [hw]; simp, by rw [hw]; simp, h.hm.bn _ (Nat.le_refl _), fun e => ?_⟩
  have := h.hm.ri.lt e
  omega
/-- What a play of both memories leaves. -/
def PV (w : World) (ρ : Nat → Nat) (D : Nat → Prop) (mb rb : Nat) (m : Mm) (w' : World) : Prop := ∃ ρ' D' m', PM w' ρ' D' mb rb m' ∧ Lv w w' ρ ρ' D D' ∧ lg m' = lg m
set_option maxHeartbeats 1600000 in
set_option maxRecDepth 1000000 in
theorem makesm_any (h : PM w ρ D mb rb m) (hp : PBm w ρ D pb mb rb) (oa ob1 oc on ox : Int) (ot os : Bool) : Calls Tryz.prog 30 #[.pointer (some ⟨pb, 0, none⟩), .agg #[.int .i64 19, .int .i64 oa, .int .i64 ob1, .int .i64 oc, .int .i64 on, .int .i64 ox, .bool ot, .bool os]] w fun e w' => e = .returned (.bool true) ∧ PV w ρ D mb rb m w' := by
  obtain ⟨w0, hw0⟩ : ∃ x, x = w.alloc (.cells #[.int .i64 19, .int .i64 oa, .int .i64 ob1, .int .i64 oc, .int .i64 on, .int .i64 ox, .bool ot, .bool os] 39) := ⟨_, rfl⟩
  have k0 : Keeps (fun _ => False) w w0 := by rw [hw0]; exact (Keeps.refl _ w).alloc _
  have h0 := h.new k0
  have hob : OBx w0 ρ D w.heap.size ⟨19, oa, ob1, oc, ⟨on, ox, ot⟩, os⟩ := h.box ⟨19, oa, ob1, oc, ⟨on, ox, ot⟩, os⟩ hw0
  have hpb := hp.lv (Lv.new (ρ := ρ) (D := D) k0)
  have HOB : Hid (OBx w0 ρ D w.heap.size ⟨19, oa, ob1, oc, ⟨on, ox, ot⟩, os⟩) := hob
  have HPB : Hid (PBm w0 ρ D pb mb rb) := hpb
  have HW0 : Hid (w0 = w.alloc (.cells #[.int .i64 19, .int .i64 oa, .int .i64 ob1, .int .i64 oc, .int .i64 on, .int .i64 ox, .bool ot, .bool os] 39)) := hw0
  have hnu := fun W x => num_of W x
  have p0 := hpb.c0
  have p2 := hpb.c2
  have pz := hpb.z
  have pd := hpb.d
  have o0 := hob.c0
  have o1 := hob.c1
  have o2 := hob.c2
  have o3 := hob.c3
  have o4 := hob.c4
  have o5 := hob.c5
  have o6 := hob.c6
  have o7 := hob.c7
  have oz := hob.z
  have od := hob.d
  clear hw0 hob hpb h hp
  dsimp only at o0 o1 o2 o3 o4 o5 o6 o7
  obtain ⟨cv, er, m1, hlg, hp1, hp2⟩ := tw_cellm h0 oa
  have h0c := h0
  clear h0
  go_enter Tryz.func30, Tryz.ntmps30
  refine wp_seq_k (fun KK hKK => ?_)
  have hKH : Hid _ := hKK
  clear hKK
  go_wp2_with fail
  refine hKH.out _ _ ?_
  clear hKH KK
  rw [← HW0.out]
  clear HW0
  go_wp2_with fail
  go_region_held3 (fun w' => w'.cell? ⟨pb, 0, none⟩ = some (.pointer (some ⟨mb, 0, none⟩)) ∧ w'.cell? ⟨w.heap.size, 1, none⟩ = some (.int .i64 oa)) (go_keep) ((go_at_call 71; (with_reducible refine (hp1 _ (Keeps.refl _ w0).drew).mono ?_); rintro e w1 ⟨ρ1, rfl, hh, lv⟩; have qp := lv.cell (p := ⟨pb, 0, none⟩) (v := .pointer (some ⟨mb, 0, none⟩)) (by simpa using p0) pz pd; have qo1 := lv.cell (p := ⟨w.heap.size, 1, none⟩) (v := .int .i64 oa) (by simpa using o1) oz od))
  have lv1 : Lv w0 w1 ρ ρ1 D D := (Lv.new (Keeps.refl _ w0).drew).trans lv
  have pbl1 := HPB.out.lv lv1
  have obx1 := HOB.out.lv lv1
  clear lv p0 p2 pz pd o0 o1 o2 o3 o4 o5 o6 o7 oz od hp1
  have p0 := pbl1.c0
  have p2 := pbl1.c2
  have pz := pbl1.z
  have pd := pbl1.d
  have o0 := obx1.c0
  have o1 := obx1.c1
  have o2 := obx1.c2
  have o3 := obx1.c3
  have o4 := obx1.c4
  have o5 := obx1.c5
  have o6 := obx1.c6
  have o7 := obx1.c7
  have oz := obx1.z
  have od := obx1.d
  clear pbl1 obx1
  go_wp2_with fail
  go_region_held3 (fun w' => w'.cell? ⟨pb, 2, none⟩ = some (.pointer (some ⟨rb, 0, none⟩)) ∧ w'.cell? ⟨w.heap.size, 1, none⟩ = some (.int .i64 oa)) (go_keep) ((go_at_call 72; (with_reducible refine (hp2 _ ρ1 (hh.new (Keeps.refl _ w1).drew)).mono ?_); rintro e w2 ⟨rfl, D2, hpp, lv⟩; have qp := lv.cell (p := ⟨pb, 2, none⟩) (v := .pointer (some ⟨rb, 0, none⟩)) (by simpa using p2) pz pd; have qo1 := lv.cell (p := ⟨w.heap.size, 1, none⟩) (v := .int .i64 oa) (by simpa using o1) oz od))
  have lv2 : Lv w0 w2 ρ ρ1 D D2 := (lv1.trans (Lv.new (Keeps.refl _ w1).drew)).trans lv
  have HPP : Hid (PM w2 ρ1 D2 mb rb m1) := hpp
  have HLV : Hid (Lv w w2 ρ ρ1 D D2) := (Lv.new k0).trans lv2
  have HLG : Hid (lg m1 = lg m) := hlg
  clear lv hpp lv1 lv2 hp2 hh p0 p2 pz pd o0 o1 o2 o3 o4 o5 o6 o7 oz od
  go_wp2_with (go_at_call 15; refine (hnu _ _).mono ?_; rintro e wn ⟨rfl, hwn⟩; rw [← hwn]; clear hwn wn)
  go_ret
  exact ⟨rfl, ρ1, D2, m1, HPP.out, HLV.out, HLG.out⟩
set_option maxHeartbeats 1600000 in
set_option maxRecDepth 1000000 in
theorem bulkm_any (h : PM w ρ D mb rb m) (hp : PBm w ρ D pb mb rb) (oa ob1 oc on ox : Int) (ot os : Bool) : Calls Tryz.prog 24 #[.pointer (some ⟨pb, 0, none⟩), .agg #[.int .i64 20, .int .i64 oa, .int .i64 ob1, .int .i64 oc, .int .i64 on, .int .i64 ox, .bool ot, .bool os]] w fun e w' => e = .returned (.bool true) ∧ PV w ρ D mb rb m w' := by
  obtain ⟨w0, hw0⟩ : ∃ x, x = w.alloc (.cells #[.int .i64 20, .int .i64 oa, .int .i64 ob1, .int .i64 oc, .int .i64 on, .int .i64 ox, .bool ot, .bool os] 39) := ⟨_, rfl⟩
  have k0 : Keeps (fun _ => False) w w0 := by rw [hw0]; exact (Keeps.refl _ w).alloc _
  have h0 := h.new k0
  have hob : OBx w0 ρ D w.heap.size ⟨20, oa, ob1, oc, ⟨on, ox, ot⟩, os⟩ := h.box ⟨20, oa, ob1, oc, ⟨on, ox, ot⟩, os⟩ hw0
  have hpb := hp.lv (Lv.new (ρ := ρ) (D := D) k0)
  have HOB : Hid (OBx w0 ρ D w.heap.size ⟨20, oa, ob1, oc, ⟨on, ox, ot⟩, os⟩) := hob
  have HPB : Hid (PBm w0 ρ D pb mb rb) := hpb
  have HW0 : Hid (w0 = w.alloc (.cells #[.int .i64 20, .int .i64 oa, .int .i64 ob1, .int .i64 oc, .int .i64 on, .int .i64 ox, .bool ot, .bool os] 39)) := hw0
  have hnu := fun W x => num_of W x
  have p0 := hpb.c0
  have p2 := hpb.c2
  have pz := hpb.z
  have pd := hpb.d
  have o0 := hob.c0
  have o1 := hob.c1
  have o2 := hob.c2
  have o3 := hob.c3
  have o4 := hob.c4
  have o5 := hob.c5
  have o6 := hob.c6
  have o7 := hob.c7
  have oz := hob.z
  have od := hob.d
  clear hw0 hob hpb h hp
  dsimp only at o0 o1 o2 o3 o4 o5 o6 o7
  have H0 : Hid (PM w0 ρ D mb rb m) := h0
  clear h0 p0 p2 pz pd o0 o1 o2 o3 o4 o5 o6 o7 oz od hnu
  go_enter Tryz.func24, Tryz.ntmps24
  refine wp_seq_k (fun KK hKK => ?_)
  have hKH : Hid _ := hKK
  clear hKK
  go_wp2_with fail
  refine hKH.out _ _ ?_
  clear hKH KK
  rw [← HW0.out]
  clear HW0
  go_wp2_with fail
  go_loopg [5] 70000 (fun g iv Wr => ∃ (i : Nat) (ρ1 : Nat → Nat) (D1 : Nat → Prop) (m1 : Mm), i + g = 70000 ∧ iv = .int .i64 (i : Int) ∧ PM Wr ρ1 D1 mb rb m1 ∧ Lv w0 Wr ρ ρ1 D D1 ∧ lg m1 = lg m)
  case atStart => exact ⟨0, ρ, D, m, by omega, rfl, H0.out, Lv.refl _ _ _, rfl⟩
  case round =>
    obtain ⟨i, ρ1, D1, m1, hig, rfl, h1, lv, hle⟩ := hrel
    have pbl := HPB.out.lv lv
    have obx := HOB.out.lv lv
    have o0 := obx.c0
    have o1 := obx.c1
    dsimp only at o0 o1
    have HLV : Hid (Lv w0 wr ρ ρ1 D D1) := lv
    have HLG : Hid (lg m1 = lg m) := hle
    have H1 : Hid (PM wr ρ1 D1 mb rb m1) := h1
    clear lv hle obx
    by_cases hrun : (i : Int) < oa ∧ i < 70000
    · obtain ⟨ha, h7⟩ := hrun
      obtain ⟨g, rfl⟩ : ∃ g, gk = g + 1 := ⟨gk - 1, by omega⟩
      have d1 : decide ((i : Int) < oa) = true := decide_eq_true ha
      have d2 : decide ((i : Int) < 70000) = true := decide_eq_true (by omega)
      have d3 : decide (i < 70000) = true := decide_eq_true h7
      have d4 : IntKind.i64.wrap ((i : Int) + 1) = (i : Int) + 1 := by rw [IntKind.wrap_i64]; omega
      have hmk := makesm_any h1 pbl (i : Int) 0 0 0 0 false false
      go_wp2_with (go_at_call 30; refine hmk.mono ?_; clear hmk; rintro e w3 ⟨rfl, ρ3, D3, m3, h3, lv3, lg3⟩)
      go_roundg g
      case measure => omega
      case rel => exact ⟨i + 1, ρ3, D3, m3, by omega, by go_num, h3, HLV.out.trans lv3, lg3.trans HLG.out⟩
    · by_cases ha : (i : Int) < oa
      · have d1 : decide ((i : Int) < oa) = true := decide_eq_true ha
        have d2 : decide ((i : Int) < 70000) = false := decide_eq_false (by omega)
        have d3 : decide (i < 70000) = false := decide_eq_false (by omega)
        clear hrun
        go_wp2_with fail
        go_ret
        exact ⟨rfl, ρ1, D1, m1, H1.out, (Lv.new k0).trans HLV.out, HLG.out⟩
      · have d1 : decide ((i : Int) < oa) = false := decide_eq_false ha
        clear hrun
        go_wp2_with fail
        go_ret
        exact ⟨rfl, ρ1, D1, m1, H1.out, (Lv.new k0).trans HLV.out, HLG.out⟩
end
end Go.Proofs.YtaikngpgmcpecaaGreat
namespace Go.Proofs.YtaikngpgmcpecaaGreat
open Go.RowKit
section
variable {w : World} {ρ : Nat → Nat} {mb rb : Nat} {m : Mm} {B : Nat → Prop}
set_option maxHeartbeats 1600000 in
set_option maxRecDepth 1000000 in
theorem New_no (hm : MJ w ρ 1 mb m) {a : Option Addr} {n cap : Nat} (h : n < 1 ∨ 80 < n ∨ (1 ≤ n ∧ n ≤ 80 ∧ 65536 < m.cells.length + 2 + n)) : Calls Tryz.prog 14 #[.pointer (some ⟨mb, 0, none⟩), .slice a n cap] w fun e w' => e = .returned (.tuple #[.pointer none, .int .i64 58]) ∧ Keeps (fun _ => False) w w' := by
  obtain ⟨w0, hw0⟩ : ∃ w0, w0 = w.alloc (.cells #[.pointer (some ⟨mb, 0, none⟩), .slice none 0 0, .slice none 0 0, .slice none 0 0, .slice none 0 0] 79) := ⟨_, rfl⟩
  obtain ⟨ρ0, h0, x0⟩ := St.start (u := 1) (j := 2) hm (by decide) (by decide) (by decide) hw0
  have k0 : Keeps (fun _ => False) w w0 := by rw [hw0]; exact (Keeps.refl _ w).alloc _
  have HW0 : Hid (w0 = w.alloc (.cells #[.pointer (some ⟨mb, 0, none⟩), .slice none 0 0, .slice none 0 0, .slice none 0 0, .slice none 0 0] 79)) := hw0
  clear hw0 x0
  rcases h with h | h | ⟨h1, h2, h3⟩
  · have d1 : decide ((n : Int) < 1) = true := decide_eq_true (by omega)
    have d2 : decide (n < 1) = true := decide_eq_true h
    clear h0
    go_enter Tryz.func14, Tryz.ntmps14
    go_wp2_with fail
    go_ret2
    exact ⟨rfl, (Keeps.refl _ w).alloc _⟩
  · have d1 : decide ((n : Int) < 1) = false := decide_eq_false (by omega)
    have d2 : decide (n < 1) = false := decide_eq_false (by omega)
    have d3 : decide ((n : Int) > 80) = true := decide_eq_true (by omega)
    have d4 : decide ((80 : Int) < (n : Int)) = true := decide_eq_true (by omega)
    have d5 : decide (80 < n) = true := decide_eq_true h
    clear h0
    go_enter Tryz.func14, Tryz.ntmps14
    go_wp2_with fail
    go_ret2
    exact ⟨rfl, (Keeps.refl _ w).alloc _⟩
  · have d1 : decide ((n : Int) < 1) = false := decide_eq_false (by omega)
    have d2 : decide (n < 1) = false := decide_eq_false (by omega)
    have d3 : decide ((n : Int) > 80) = false := decide_eq_false (by omega)
    have d4 : decide ((80 : Int) < (n : Int)) = false := decide_eq_false (by omega)
    have d5 : decide (80 < n) = false := decide_eq_false (by omega)
    have hro := room_any h0 (c := 2 + (n : Int)) (by omega)
    have d6 : decide ((m.cells.length : Int) ≤ 65536 - (2 + (n : Int))) = false := decide_eq_false (by omega)
    rw [d6] at hro
    have d7 : IntKind.i64.wrap (2 + (n : Int)) = 2 + (n : Int) := by rw [IntKind.wrap_i64]; omega
    clear h0 d6
    go_enter Tryz.func14, Tryz.ntmps14
    refine wp_seq_k (fun KK hKK => ?_)
    have hKH : Hid _ := hKK
    clear hKK
    go_wp2_with fail
    refine hKH.out _ _ ?_
    clear hKH KK
    refine wp_seq_k (fun KK hKK => ?_)
    have hKH : Hid _ := hKK
    clear hKK
    go_wp2_with fail
    refine hKH.out _ _ ?_
    clear hKH KK
    rw [← HW0.out]
    clear HW0
    go_wp2_with (go_at_call 37; refine hro.mono ?_; clear hro; rintro e w' ⟨rfl, rfl⟩)
    go_ret2
    exact ⟨rfl, k0⟩
set_option maxHeartbeats 1600000 in
set_option maxRecDepth 1000000 in
theorem rNew_no (hm : RI w rb m B) {a : Option Addr} {n cap : Nat} (hcl : m.cells.length ≤ 65536) (h : n < 1 ∨ 80 < n ∨ (1 ≤ n ∧ n ≤ 80 ∧ 65536 < m.cells.length + 2 + n)) : Calls Tryz.prog 26 #[.pointer (some ⟨rb, 0, none⟩), .slice a n cap] w fun e w' => e = .returned (.tuple #[.pointer none, .int .i64 58]) ∧ Keeps (fun _ => False) w w' := by
  have hq := rmeq rb
  have hsz := rsize_any hm
  generalize m.cells.length = c at *
  clear hm
  rcases h with h | h | ⟨h1, h2, h3⟩
  · obtain rfl : n = 0 := by omega
    go_enter Tryz.func26, Tryz.ntmps26
    go_wp2_with fail
    go_ret2
    exact ⟨rfl, Keeps.refl _ _⟩
  · have d1 : ((n : Int) == 0) = false := by simp; omega
    have d1' : decide (n = 0) = false := by simp; omega
    have d3 : decide ((n : Int) > 80) = true := decide_eq_true (by omega)
    have d4 : decide ((80 : Int) < (n : Int)) = true := decide_eq_true (by omega)
    have d5 : decide (80 < n) = true := decide_eq_true h
    go_enter Tryz.func26, Tryz.ntmps26
    go_wp2_with fail
    go_ret2
    exact ⟨rfl, Keeps.refl _ _⟩
  · have d1 : ((n : Int) == 0) = false := by simp; omega
    have d1' : decide (n = 0) = false := by simp; omega
    have d3 : decide ((n : Int) > 80) = false := decide_eq_false (by omega)
    have d4 : decide ((80 : Int) < (n : Int)) = false := decide_eq_false (by omega)
    have d5 : decide (80 < n) = false := decide_eq_false (by omega)
    have g1 : IntKind.i64.wrap ((c : Int) + 2) = (c : Int) + 2 := by rw [IntKind.wrap_i64]; omega
    have g2 : IntKind.i64.wrap ((c : Int) + 2 + (n : Int)) = (c : Int) + 2 + (n : Int) := by rw [IntKind.wrap_i64]; omega
    have g3 : decide ((c : Int) + 2 + (n : Int) > 65536) = true := decide_eq_true (by omega)
    have g4 : decide ((65536 : Int) < (c : Int) + 2 + (n : Int)) = true := decide_eq_true (by omega)
    go_enter Tryz.func26, Tryz.ntmps26
    go_wp2_with (go_at_call 12; refine hsz.mono ?_; clear hsz; rintro e w' ⟨rfl, e'⟩; obtain rfl := e'.symm)
    go_ret2
    exact ⟨rfl, Keeps.refl _ _⟩
end
end Go.Proofs.YtaikngpgmcpecaaGreat
namespace Go.Proofs.YtaikngpgmcpecaaGreat
open Go.RowKit
set_option maxHeartbeats 1600000 in
set_option maxRecDepth 1000000 in
/-- Two lists of the same values. -/
theorem same_eq2 {w : World} {a b : Option Addr} {vs : List Vl} (ha : VA w a vs) (hb : VA w b vs) (hn : vs.length ≤ 4611686018427387903) (ca cb : Nat) :
    Calls Tryz.prog 25 #[.slice a vs.length ca, .slice b vs.length cb] w fun e w' => e = .returned (.bool true) ∧ Keeps (fun _ => False) w w' := by
  go_enter Tryz.func25, Tryz.ntmps25
  go_wp2_with fail
  go_loopw [5] (fun iv wr => ∃ i : Nat, i ≤ vs.length ∧ iv = .int .i64 (i : Int) ∧ Keeps (fun _ => False) w wr) (fun iv _ => vs.length - (intOf iv).toNat)
  case atStart => exact ⟨0, Nat.zero_le _, rfl, Keeps.refl _ w⟩
  case round =>
    obtain ⟨i, hi, rfl, hk⟩ := hrel
    by_cases hlt : i < vs.length
    · have hltI : (i : Int) < (vs.length : Int) := by omega
      obtain ⟨b1, o1, rfl, x0, x1, x2⟩ := (ha.new hk).at hlt
      obtain ⟨b2, o2, rfl, y0, y1, y2⟩ := (hb.new hk).at hlt
      have x0' := ks_cell x0
      have x1' := ks_cell x1
      have x2' := ks_cell x2
      have y0' := ks_cell y0
      have y1' := ks_cell y1
      have y2' := ks_cell y2
      have hNE : Nonempty (KS wr) := ⟨⟨wr, Keeps.refl _ wr⟩⟩
      generalize vs.getD i vl0 = v at *
      clear ha hb x0 x1 x2 y0 y1 y2
      go_wp2_with fail
      refine wp_region_ks (by kernel_rfl) (by kernel_rfl) ?_
      repeat (go_big_quiet_step (fail))
      refine wpQuiet_nil ?_
      rintro _ ⟨U, rfl⟩
      have KU := hk.trans U.property
      clear x0' x1' x2' y0' y1' y2' hNE
      generalize U.val = wu at *
      go_wp2_with fail
      go_roundw
      case rel => exact ⟨i + 1, by omega, by go_num, KU⟩
      case measure => simp [intOf]; omega
    · have hltI : ¬ (i : Int) < (vs.length : Int) := by omega
      clear ha hb
      go_wp2_with fail
      go_ret
      exact ⟨rfl, hk⟩
/-- Values in memory, cell by cell. -/
def VB (W : World) (a : Option Addr) (l : List Vl) : Prop := ∀ i, i < l.length → ∃ b off, a = some ⟨b, off, none⟩ ∧ ∀ j v, (vc3 (l.getD i vl0))[j]? = some v → W.cell? ⟨b, off + i * 3 + j, none⟩ = some v
theorem fl_lenV (l : List Vl) : (fl vc3 l).length = l.length * 3 := by
  induction l with
  | nil => rfl
  | cons c l ih =>
    show (vc3 c ++ fl vc3 l).length = _
    rw [List.length_append, ih, List.length_cons, vc3_len]
    omega
theorem flv_at {l : List Vl} {j : Nat} (hj : j < l.length * 3) : (fl vc3 l)[j]? = (vc3 (l.getD (j / 3) vl0))[j % 3]? := by
  have h := fl_get vc3_len l (j / 3) (j % 3) (by omega)
  rw [getD_get (d := vl0) (by omega), show j / 3 * 3 + j % 3 = j by omega] at h
  exact h
theorem vl_one : ∀ (l : List Vl), ∀ u ∈ fl vc3 l, u.oneCell' = true
  | [], u, hu => by cases hu
  | c :: l, u, hu => by
    have hu : u ∈ vc3 c ++ fl vc3 l := hu
    rcases List.mem_append.1 hu with h | h
    · simp [vc3] at h
      rcases h with rfl | rfl | rfl <;> rfl
    · exact vl_one l u h
set_option maxRecDepth 100000 in
theorem copy_vals {W : World} {a : Option Addr} {cap : Nat} {l : List Vl} (hl : VB W a l) (hz : a = none → cap = 0) (hn : l.length ≤ 5864062014805) :
    ∃ v' W', (Builtin.append_ #[22, 22] 22 #[.slice (some ⟨W.heap.size, 0, none⟩) 0 0, .slice a l.length cap]).run Tryz.prog (W.alloc (.cells #[] 37)) = .ok v' W' ∧ W'.ownsRow W.heap.size 37 3 v' l.length (fl vc3 l) ∧ Keeps (fun _ => False) W W' := by
  obtain ⟨i0, hi0, hzz⟩ := Option.map_eq_some_iff.1 iVv
  simp only [Prod.mk.injEq] at hzz
  obtain ⟨hz0, hz1, hz2⟩ := hzz
  have k0 : Keeps (fun _ => False) W (W.alloc (.cells #[] 37)) := (Keeps.refl _ W).alloc _
  have o0 : (W.alloc (.cells #[] 37)).ownsRow W.heap.size 37 3 (.slice (some ⟨W.heap.size, 0, none⟩) 0 0) 0 [] := ⟨by simp, .inr ⟨W.heap.size, 0, #[], rfl, Nat.le_refl _, by rw [show (W.alloc (.cells #[] 37)).heap = W.heap.push (.cells #[] 37) from rfl]; simp, Nat.le_refl _, by unfold maxLen; omega, by simp, by simp⟩⟩
  cases a with
  | none =>
    have hl0 : l = [] := by
      cases l with
      | nil => rfl
      | cons c l =>
        obtain ⟨b, off, e, _⟩ := hl 0 (by simp)
        cases e
    subst hl0
    rw [hz rfl]
    exact ⟨_, _, run_append_owned_none (P := Tryz.prog) (w := W.alloc (.cells #[] 37)) W.heap.size 22 22 37 i0 3 uVv hi0 _ 0 [] o0, o0, k0⟩
  | some p =>
    obtain ⟨v', w', hr, ho, hgr, _, _⟩ := run_append_own_at (P := Tryz.prog) (w := W.alloc (.cells #[] 37)) W.heap.size 22 22 37 i0 _ 3 24 uVv hi0 hz0 hz1 hz2 rfl (by decide) _ 0 [] o0 p l.length cap (fl vc3 l) (fl_lenV l) (fun j y hy => by
      have hj : j < l.length * 3 := by rw [← fl_lenV]; exact (List.getElem?_eq_some_iff.1 hy).1
      obtain ⟨b, off, e, hc⟩ := hl (j / 3) (by omega)
      injection e with e
      subst e
      rw [flv_at hj] at hy
      have := hc (j % 3) y hy
      rw [add_atT, show off + j = off + j / 3 * 3 + j % 3 by omega]
      exact k0.cell this (fun e => e)) (vl_one l) (by unfold maxLen; omega) (by omega) k0.size
    rw [Nat.zero_add, List.nil_append] at ho
    exact ⟨v', w', hr, ho, k0.trans' ((Keeps.refl _ _).grown hgr (S := fun i => i = W.heap.size) (fun i _ e => by simp [Value.ownBlock] at e; exact e.symm)) (fun _ _ e => e) (fun i hi e => by have e : i = W.heap.size := e; omega)⟩
end Go.Proofs.YtaikngpgmcpecaaGreat
