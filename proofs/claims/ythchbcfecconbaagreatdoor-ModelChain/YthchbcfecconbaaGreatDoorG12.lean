import Derived.Test.YthchbcfecconbaaGreatDoorG11
namespace Go.Proofs.YthchbcfecconbaaGreatDoor
open Go.RowKit
set_option maxHeartbeats 1000000 in
set_option maxRecDepth 100000 in
theorem does_10 {w : World} {B : Nat} {d : Ds} {vo vh : Value} (h : DM w B d vo vh) {a0 a ag : Option Addr} {c0 cap cg : Nat} {l : List Ins} {os : List Int} {gs : List (Bool × Int)} (hl : ISL w a0 l) (hlB : ∀ b off, a0 = some ⟨b, off, none⟩ → b < B) (hO : NUM w a os) (hOB : ∀ b off, a = some ⟨b, off, none⟩ → b < B) (hG : GVN w ag gs) (hGB : ∀ b off, ag = some ⟨b, off, none⟩ → b < B) (hn : os.length ≤ 16 ∧ gs.length ≤ 4096 ∧ d.own.length ≤ 100000 ∧ d.held.length ≤ 100000 ∧ d.rd ≤ 100000) (hp : 0 ≤ d.pl ∧ d.pl ≤ 64) (hcn : 0 ≤ d.cnt ∧ d.cnt ≤ 100000) (h64 : l.length ≤ 64) (he : ¬ (l.length : Int) ≤ d.pl) (q : Ins) (hq : l.getD d.pl.toNat ins0 = q) (hc10 : q.code = 10) : Calls Tryz.prog 25 #[.pointer (some ⟨B, 0, none⟩), .slice a0 l.length c0, .slice a os.length cap, .slice ag gs.length cg] w fun e w' => ∃ vo' vh', e = .returned (.tuple #[]) ∧ DM w' B ({ d.tick with oc := 1, rs := d.tick.sv q.xR q.xN }) vo' vh' ∧ Keeps (fun k => B ≤ k) w w' := by
  have v20 : IntKind.i64.wrap (d.cnt + 1) = d.cnt + 1 := by rw [IntKind.wrap_i64]; omega
  have p20 := h.k
  have HT : Hid (_ ∧ _) := h.tk (o := 20) (by omega)
  have HH : Hid (DM w B d vo vh) := h
  clear h
  obtain ⟨p, HPe⟩ : ∃ p : Nat, d.pl = (p : Int) := ⟨d.pl.toNat, by omega⟩
  have hpl : p < l.length := by omega
  have i1 : (0 : Int) ≤ (p : Int) := by omega
  have i2 : (p : Int) < (l.length : Int) := by omega
  have b1 : decide ((l.length : Int) ≤ (p : Int)) = false := decide_eq_false (by omega)
  have b2 : decide (l.length ≤ p) = false := decide_eq_false (by omega)
  have HP : Hid (d.pl = (p : Int)) := HPe
  obtain ⟨b, off, rfl, hc⟩ := hl p hpl
  have HBB : Hid (¬ b = B) := fun e => by have := hlB b off rfl; omega
  have eq' : l.getD d.pl.toNat ins0 = l.getD p ins0 := by rw [HPe, Int.toNat_natCast]
  rw [eq'] at hq
  rw [hq] at hc
  have hOC := all_oneCell_ins q
  clear eq' HPe hl hq hpl
  have _u := And.intro hO (And.intro hOB (And.intro hG (And.intro hGB (And.intro hn (And.intro hp (And.intro hcn h64))))))
  clear _u
  clear hO hG hOB hGB hn hlB
  generalize l.length = N0 at *
  generalize os.length = N3 at *
  generalize gs.length = N4 at *
  go_enter Tryz.func25, Tryz.ntmps25
  go_wp2_with (first | (refine wpList_st_int rfl rfl _ _ _ rfl (by decide) B 20 rfl _ rfl HT.out ?_; intro w1 e1; have HD1 : Hid (DM w1 B d.tick vo vh) := (by show DM _ _ _ _ _; rw [e1]; exact HH.out.setK (d.cnt + 1)); have HK1 : Hid (Keeps (fun k => k = B) w w1) := (by show Keeps _ _ _; rw [e1]; exact (Keeps.refl (fun k => k = B) w).setCell (p := ⟨B, 20, none⟩) (fun _ => rfl) _); clear e1; have p19 : w1.cell? ⟨B, 19, none⟩ = some (.int .i64 d.pl) := HD1.out.p; obtain ⟨W4, hW4⟩ : ∃ W4, W4 = w1.alloc (.cells #[.int .i64 0, .int .i64 0, .bool false, .int .i64 0, .bool false, .int .i64 0, .bool false, .int .i64 0, .int .i64 0, .int .i64 0, .int .i64 0] 62) := ⟨_, rfl⟩; have k4 : Keeps (fun _ => False) w1 W4 := (by rw [hW4]; exact (Keeps.refl _ w1).alloc _); have hU4 : CL W4 w1.heap.size ins0.cells := (by rw [hW4]; exact CL.made w1 ins0.cells _); have HW4 : Hid (W4 = w1.alloc (.cells #[.int .i64 0, .int .i64 0, .bool false, .int .i64 0, .bool false, .int .i64 0, .bool false, .int .i64 0, .int .i64 0, .int .i64 0, .int .i64 0] 62)) := hW4; clear hW4; have hR := run_insD (W := w1) (fun j v e => HK1.out.cell (hc j v e) HBB.out); replace p19 : w1.cell? ⟨B, 19, none⟩ = some (.int .i64 (p : Int)) := (by rw [p19, HP.out])) | (refine wpList_load_run rfl 62 _ rfl ⟨b, off + p * 11, none⟩ rfl _ hR ?_; clear hR) | (rw [← HW4.out]; clear HW4; refine wpList_store_cl rfl 62 _ _ rfl w1.heap.size 0 11 _ rfl rfl rfl hU4 (by show 11 ≤ 11; decide) iInD hOC ?_; intro w3 hc3 k3 hsz3; clear hsz3; have hI3 : CL w3 w1.heap.size q.cells := hc3; clear hc3; have K3 : Keeps (fun _ => False) w1 w3 := k4.trans' k3 (fun _ _ e => e) (fun i hi e => (by have e : i = w1.heap.size := e; omega)); have HD3 : Hid (DM w3 B d.tick vo vh) := HD1.out.new K3; have x4 := hI3.c 4 _ rfl; have x5 := hI3.c 5 _ rfl; have hsx := dsource_any HD3.out q.xR q.xN) | (go_at_call 37; refine hsx.mono ?_; clear hsx; rintro e w4 ⟨rfl, k4x⟩; have hI4 := hI3.keep (by show 0 < 11; decide) k4x (fun e => e); have x6 := hI4.c 6 _ rfl; have x7 := hI4.c 7 _ rfl; have hsy := dsource_any (HD3.out.new k4x) q.yR q.yN) | (go_at_call 37; refine hsy.mono ?_; clear hsy; rintro e w5 ⟨rfl, k5⟩; have hI5 := hI4.keep (by show 0 < 11; decide) k5 (fun e => e); have HD5 : Hid (DM w5 B d.tick vo vh) := (HD3.out.new k4x).new k5; have HK5 : Hid (Keeps (fun k => k = B) w w5) := HK1.out.trans (((K3.trans k4x).trans k5).mono (fun _ _ e => e.elim)); have y0 := hI5.c 0 _ rfl; rw [hc10] at y0; have HT5 : Hid (_ ∧ _) := HD5.out.tk (o := 21) (by omega)) | (refine wpList_st_int rfl rfl _ _ _ rfl (by decide) B 21 rfl _ rfl HT5.out ?_; intro w6 e6; have HD6 : Hid (DM w6 B { d.tick with oc := 1 } vo vh) := (by show DM _ _ _ _ _; rw [e6]; exact HD5.out.setC 1); have HK6 : Hid (Keeps (fun k => k = B) w w6) := (by show Keeps _ _ _; rw [e6]; exact HK5.out.setCell (p := ⟨B, 21, none⟩) (fun _ => rfl) _); clear e6; have HT6 : Hid (_ ∧ _) := HD6.out.tk (o := 22) (by omega)) | (refine wpList_st_int rfl rfl _ _ _ rfl (by decide) B 22 rfl _ rfl HT6.out ?_; intro w9 e9; have HE : Hid (_ = _) := e9; clear e9))
  go_end0
  have F1 : DM w9 B ({ d.tick with oc := 1, rs := d.tick.sv q.xR q.xN }) vo vh := by rw [HE.out]; exact HD6.out.setU _
  have F2 : Keeps (fun k => B ≤ k) w w9 := by rw [HE.out]; exact (HK6.out.mono (fun i _ e => by have e : i = B := e; show B ≤ i; omega)).setCell (p := ⟨B, 22, none⟩) (fun _ => (by show B ≤ B; exact Nat.le_refl _)) _
  first
    | exact ⟨vo, vh, rfl, F1, F2⟩
    | exact ⟨rfl, ⟨vo, vh, F1⟩, F2⟩
set_option maxHeartbeats 1000000 in
set_option maxRecDepth 100000 in
theorem does_5 {w : World} {B : Nat} {d : Ds} {vo vh : Value} (h : DM w B d vo vh) {a0 a ag : Option Addr} {c0 cap cg : Nat} {l : List Ins} {os : List Int} {gs : List (Bool × Int)} (hl : ISL w a0 l) (hlB : ∀ b off, a0 = some ⟨b, off, none⟩ → b < B) (hO : NUM w a os) (hOB : ∀ b off, a = some ⟨b, off, none⟩ → b < B) (hG : GVN w ag gs) (hGB : ∀ b off, ag = some ⟨b, off, none⟩ → b < B) (hn : os.length ≤ 16 ∧ gs.length ≤ 4096 ∧ d.own.length ≤ 100000 ∧ d.held.length ≤ 100000 ∧ d.rd ≤ 100000) (hp : 0 ≤ d.pl ∧ d.pl ≤ 64) (hcn : 0 ≤ d.cnt ∧ d.cnt ≤ 100000) (h64 : l.length ≤ 64) (he : ¬ (l.length : Int) ≤ d.pl) (q : Ins) (hq : l.getD d.pl.toNat ins0 = q) (hc5 : q.code = 5) (hdq : 0 ≤ q.dst ∧ q.dst < 16) : Calls Tryz.prog 25 #[.pointer (some ⟨B, 0, none⟩), .slice a0 l.length c0, .slice a os.length cap, .slice ag gs.length cg] w fun e w' => ∃ vo' vh', e = .returned (.tuple #[]) ∧ DM w' B ((d.tick.setReg q.dst.toNat (d.tick.sv q.xR q.xN)).inc) vo' vh' ∧ Keeps (fun k => B ≤ k) w w' := by
  have v20 : IntKind.i64.wrap (d.cnt + 1) = d.cnt + 1 := by rw [IntKind.wrap_i64]; omega
  have p20 := h.k
  have HT : Hid (_ ∧ _) := h.tk (o := 20) (by omega)
  have HH : Hid (DM w B d vo vh) := h
  clear h
  obtain ⟨p, HPe⟩ : ∃ p : Nat, d.pl = (p : Int) := ⟨d.pl.toNat, by omega⟩
  have hpl : p < l.length := by omega
  have i1 : (0 : Int) ≤ (p : Int) := by omega
  have i2 : (p : Int) < (l.length : Int) := by omega
  have b1 : decide ((l.length : Int) ≤ (p : Int)) = false := decide_eq_false (by omega)
  have b2 : decide (l.length ≤ p) = false := decide_eq_false (by omega)
  have HP : Hid (d.pl = (p : Int)) := HPe
  obtain ⟨b, off, rfl, hc⟩ := hl p hpl
  have HBB : Hid (¬ b = B) := fun e => by have := hlB b off rfl; omega
  have eq' : l.getD d.pl.toNat ins0 = l.getD p ins0 := by rw [HPe, Int.toNat_natCast]
  rw [eq'] at hq
  rw [hq] at hc
  have hOC := all_oneCell_ins q
  clear eq' HPe hl hq hpl
  have v19 : IntKind.i64.wrap ((p : Int) + 1) = (p : Int) + 1 := by rw [IntKind.wrap_i64]; omega
  obtain ⟨r, hr⟩ : ∃ r : Nat, q.dst = (r : Int) := ⟨q.dst.toNat, by omega⟩
  have hr16 : r < 16 := by omega
  have r1 : (0 : Int) ≤ (r : Int) := by omega
  have r2 : (r : Int) < 16 := by omega
  have er : q.dst.toNat = r := by rw [hr]; rfl
  rw [er]
  clear er hdq
  have _u := And.intro hO (And.intro hOB (And.intro hG (And.intro hGB (And.intro hn (And.intro hp (And.intro hcn h64))))))
  clear _u
  clear hO hG hOB hGB hn hlB
  generalize l.length = N0 at *
  generalize os.length = N3 at *
  generalize gs.length = N4 at *
  go_enter Tryz.func25, Tryz.ntmps25
  go_wp2_with (first | (refine wpList_st_int rfl rfl _ _ _ rfl (by decide) B 20 rfl _ rfl HT.out ?_; intro w1 e1; have HD1 : Hid (DM w1 B d.tick vo vh) := (by show DM _ _ _ _ _; rw [e1]; exact HH.out.setK (d.cnt + 1)); have HK1 : Hid (Keeps (fun k => k = B) w w1) := (by show Keeps _ _ _; rw [e1]; exact (Keeps.refl (fun k => k = B) w).setCell (p := ⟨B, 20, none⟩) (fun _ => rfl) _); clear e1; have p19 : w1.cell? ⟨B, 19, none⟩ = some (.int .i64 d.pl) := HD1.out.p; obtain ⟨W4, hW4⟩ : ∃ W4, W4 = w1.alloc (.cells #[.int .i64 0, .int .i64 0, .bool false, .int .i64 0, .bool false, .int .i64 0, .bool false, .int .i64 0, .int .i64 0, .int .i64 0, .int .i64 0] 62) := ⟨_, rfl⟩; have k4 : Keeps (fun _ => False) w1 W4 := (by rw [hW4]; exact (Keeps.refl _ w1).alloc _); have hU4 : CL W4 w1.heap.size ins0.cells := (by rw [hW4]; exact CL.made w1 ins0.cells _); have HW4 : Hid (W4 = w1.alloc (.cells #[.int .i64 0, .int .i64 0, .bool false, .int .i64 0, .bool false, .int .i64 0, .bool false, .int .i64 0, .int .i64 0, .int .i64 0, .int .i64 0] 62)) := hW4; clear hW4; have hR := run_insD (W := w1) (fun j v e => HK1.out.cell (hc j v e) HBB.out); replace p19 : w1.cell? ⟨B, 19, none⟩ = some (.int .i64 (p : Int)) := (by rw [p19, HP.out])) | (refine wpList_load_run rfl 62 _ rfl ⟨b, off + p * 11, none⟩ rfl _ hR ?_; clear hR) | (rw [← HW4.out]; clear HW4; refine wpList_store_cl rfl 62 _ _ rfl w1.heap.size 0 11 _ rfl rfl rfl hU4 (by show 11 ≤ 11; decide) iInD hOC ?_; intro w3 hc3 k3 hsz3; clear hsz3; have hI3 : CL w3 w1.heap.size q.cells := hc3; clear hc3; have K3 : Keeps (fun _ => False) w1 w3 := k4.trans' k3 (fun _ _ e => e) (fun i hi e => (by have e : i = w1.heap.size := e; omega)); have HD3 : Hid (DM w3 B d.tick vo vh) := HD1.out.new K3; have x4 := hI3.c 4 _ rfl; have x5 := hI3.c 5 _ rfl; have hsx := dsource_any HD3.out q.xR q.xN) | (go_at_call 37; refine hsx.mono ?_; clear hsx; rintro e w4 ⟨rfl, k4x⟩; have hI4 := hI3.keep (by show 0 < 11; decide) k4x (fun e => e); have x6 := hI4.c 6 _ rfl; have x7 := hI4.c 7 _ rfl; have hsy := dsource_any (HD3.out.new k4x) q.yR q.yN) | (go_at_call 37; refine hsy.mono ?_; clear hsy; rintro e w5 ⟨rfl, k5⟩; have hI5 := hI4.keep (by show 0 < 11; decide) k5 (fun e => e); have HD5 : Hid (DM w5 B d.tick vo vh) := (HD3.out.new k4x).new k5; have HK5 : Hid (Keeps (fun k => k = B) w w5) := HK1.out.trans (((K3.trans k4x).trans k5).mono (fun _ _ e => e.elim)); have y0 := hI5.c 0 _ rfl; rw [hc5] at y0; have y1 := hI5.c 1 _ rfl; rw [hr] at y1))
  have y1d : w5.drew.cell? ⟨w1.heap.size, 1, none⟩ = some (.int .i64 (r : Int)) := y1
  have crd : w5.drew.cell? ⟨B, r, none⟩ = some (.int .i64 (d.tick.regs r)) := HD5.out.r r hr16
  have zrd : w5.drew.frozen? ⟨B, r, none⟩ = false := HD5.out.z r (by omega)
  go_region_with (fail)
  all_goals
    generalize h9 : World.drew (World.setCell _ _ _) = w6
    have HD6 : Hid (DM w6 B (d.tick.setReg r (d.tick.sv q.xR q.xN)) vo vh) := by show DM _ _ _ _ _; rw [← h9]; exact (HD5.out.reg hr16 _).new (Keeps.refl (fun _ => False) _).drew
    have HK6 : Hid (Keeps (fun k => k = B) w w6) := by show Keeps _ _ _; rw [← h9]; exact (HK5.out.setCell (p := ⟨B, r, none⟩) (fun _ => rfl) _).drew
    clear h9
    have q19 : w6.cell? ⟨B, 19, none⟩ = some (.int .i64 (p : Int)) := (by rw [HD6.out.p]; show some (Value.int .i64 d.pl) = _; rw [HP.out]); have HT6 : Hid (_ ∧ _) := HD6.out.tk (o := 19) (by omega)
    go_wp2_with (refine wpList_st_int rfl rfl _ _ _ rfl (by decide) B 19 rfl _ rfl HT6.out ?_; intro w9 e9; have HE : Hid (_ = _) := e9; clear e9)
    go_end0
    have F1 : DM w9 B ((d.tick.setReg r (d.tick.sv q.xR q.xN)).inc) vo vh := by rw [HE.out]; exact (by rw [← HP.out]; exact HD6.out.setP (d.pl + 1))
    have F2 : Keeps (fun k => B ≤ k) w w9 := by rw [HE.out]; exact (HK6.out.mono (fun i _ e => by have e : i = B := e; show B ≤ i; omega)).setCell (p := ⟨B, 19, none⟩) (fun _ => (by show B ≤ B; exact Nat.le_refl _)) _
    first
      | exact ⟨vo, vh, rfl, F1, F2⟩
      | exact ⟨rfl, ⟨vo, vh, F1⟩, F2⟩
end Go.Proofs.YthchbcfecconbaaGreatDoor

namespace Go.Proofs.YthchbcfecconbaaGreatDoor
open Go.RowKit
set_option maxHeartbeats 1000000 in
set_option maxRecDepth 100000 in
theorem does_7t {w : World} {B : Nat} {d : Ds} {vo vh : Value} (h : DM w B d vo vh) {a0 a ag : Option Addr} {c0 cap cg : Nat} {l : List Ins} {os : List Int} {gs : List (Bool × Int)} (hl : ISL w a0 l) (hlB : ∀ b off, a0 = some ⟨b, off, none⟩ → b < B) (hO : NUM w a os) (hOB : ∀ b off, a = some ⟨b, off, none⟩ → b < B) (hG : GVN w ag gs) (hGB : ∀ b off, ag = some ⟨b, off, none⟩ → b < B) (hn : os.length ≤ 16 ∧ gs.length ≤ 4096 ∧ d.own.length ≤ 100000 ∧ d.held.length ≤ 100000 ∧ d.rd ≤ 100000) (hp : 0 ≤ d.pl ∧ d.pl ≤ 64) (hcn : 0 ≤ d.cnt ∧ d.cnt ≤ 100000) (h64 : l.length ≤ 64) (he : ¬ (l.length : Int) ≤ d.pl) (q : Ins) (hq : l.getD d.pl.toNat ins0 = q) (hc7 : q.code = 7) (hho7 : Go.Proofs.YthchbcfecconbaaGreatDoor.hl q.rel (d.tick.sv q.xR q.xN) (d.tick.sv q.yR q.yN) = true) : Calls Tryz.prog 25 #[.pointer (some ⟨B, 0, none⟩), .slice a0 l.length c0, .slice a os.length cap, .slice ag gs.length cg] w fun e w' => ∃ vo' vh', e = .returned (.tuple #[]) ∧ DM w' B ({ d.tick.inc with pl := q.to }) vo' vh' ∧ Keeps (fun k => B ≤ k) w w' := by
  have v20 : IntKind.i64.wrap (d.cnt + 1) = d.cnt + 1 := by rw [IntKind.wrap_i64]; omega
  have p20 := h.k
  have HT : Hid (_ ∧ _) := h.tk (o := 20) (by omega)
  have HH : Hid (DM w B d vo vh) := h
  clear h
  obtain ⟨p, HPe⟩ : ∃ p : Nat, d.pl = (p : Int) := ⟨d.pl.toNat, by omega⟩
  have hpl : p < l.length := by omega
  have i1 : (0 : Int) ≤ (p : Int) := by omega
  have i2 : (p : Int) < (l.length : Int) := by omega
  have b1 : decide ((l.length : Int) ≤ (p : Int)) = false := decide_eq_false (by omega)
  have b2 : decide (l.length ≤ p) = false := decide_eq_false (by omega)
  have HP : Hid (d.pl = (p : Int)) := HPe
  obtain ⟨b, off, rfl, hc⟩ := hl p hpl
  have HBB : Hid (¬ b = B) := fun e => by have := hlB b off rfl; omega
  have eq' : l.getD d.pl.toNat ins0 = l.getD p ins0 := by rw [HPe, Int.toNat_natCast]
  rw [eq'] at hq
  rw [hq] at hc
  have hOC := all_oneCell_ins q
  clear eq' HPe hl hq hpl
  have v19 : IntKind.i64.wrap ((p : Int) + 1) = (p : Int) + 1 := by rw [IntKind.wrap_i64]; omega
  have _u := And.intro hO (And.intro hOB (And.intro hG (And.intro hGB (And.intro hn (And.intro hp (And.intro hcn h64))))))
  clear _u
  clear hO hG hOB hGB hn hlB
  generalize l.length = N0 at *
  generalize os.length = N3 at *
  generalize gs.length = N4 at *
  go_enter Tryz.func25, Tryz.ntmps25
  go_wp2_with (first | (refine wpList_st_int rfl rfl _ _ _ rfl (by decide) B 20 rfl _ rfl HT.out ?_; intro w1 e1; have HD1 : Hid (DM w1 B d.tick vo vh) := (by show DM _ _ _ _ _; rw [e1]; exact HH.out.setK (d.cnt + 1)); have HK1 : Hid (Keeps (fun k => k = B) w w1) := (by show Keeps _ _ _; rw [e1]; exact (Keeps.refl (fun k => k = B) w).setCell (p := ⟨B, 20, none⟩) (fun _ => rfl) _); clear e1; have p19 : w1.cell? ⟨B, 19, none⟩ = some (.int .i64 d.pl) := HD1.out.p; obtain ⟨W4, hW4⟩ : ∃ W4, W4 = w1.alloc (.cells #[.int .i64 0, .int .i64 0, .bool false, .int .i64 0, .bool false, .int .i64 0, .bool false, .int .i64 0, .int .i64 0, .int .i64 0, .int .i64 0] 62) := ⟨_, rfl⟩; have k4 : Keeps (fun _ => False) w1 W4 := (by rw [hW4]; exact (Keeps.refl _ w1).alloc _); have hU4 : CL W4 w1.heap.size ins0.cells := (by rw [hW4]; exact CL.made w1 ins0.cells _); have HW4 : Hid (W4 = w1.alloc (.cells #[.int .i64 0, .int .i64 0, .bool false, .int .i64 0, .bool false, .int .i64 0, .bool false, .int .i64 0, .int .i64 0, .int .i64 0, .int .i64 0] 62)) := hW4; clear hW4; have hR := run_insD (W := w1) (fun j v e => HK1.out.cell (hc j v e) HBB.out); replace p19 : w1.cell? ⟨B, 19, none⟩ = some (.int .i64 (p : Int)) := (by rw [p19, HP.out])) | (refine wpList_load_run rfl 62 _ rfl ⟨b, off + p * 11, none⟩ rfl _ hR ?_; clear hR) | (rw [← HW4.out]; clear HW4; refine wpList_store_cl rfl 62 _ _ rfl w1.heap.size 0 11 _ rfl rfl rfl hU4 (by show 11 ≤ 11; decide) iInD hOC ?_; intro w3 hc3 k3 hsz3; clear hsz3; have hI3 : CL w3 w1.heap.size q.cells := hc3; clear hc3; have K3 : Keeps (fun _ => False) w1 w3 := k4.trans' k3 (fun _ _ e => e) (fun i hi e => (by have e : i = w1.heap.size := e; omega)); have HD3 : Hid (DM w3 B d.tick vo vh) := HD1.out.new K3; have x4 := hI3.c 4 _ rfl; have x5 := hI3.c 5 _ rfl; have hsx := dsource_any HD3.out q.xR q.xN) | (go_at_call 37; refine hsx.mono ?_; clear hsx; rintro e w4 ⟨rfl, k4x⟩; have hI4 := hI3.keep (by show 0 < 11; decide) k4x (fun e => e); have x6 := hI4.c 6 _ rfl; have x7 := hI4.c 7 _ rfl; have hsy := dsource_any (HD3.out.new k4x) q.yR q.yN) | (go_at_call 37; refine hsy.mono ?_; clear hsy; rintro e w5 ⟨rfl, k5⟩; have hI5 := hI4.keep (by show 0 < 11; decide) k5 (fun e => e); have HD5 : Hid (DM w5 B d.tick vo vh) := (HD3.out.new k4x).new k5; have HK5 : Hid (Keeps (fun k => k = B) w w5) := HK1.out.trans (((K3.trans k4x).trans k5).mono (fun _ _ e => e.elim)); have y0 := hI5.c 0 _ rfl; rw [hc7] at y0; have y9 := hI5.c 9 _ rfl; have hho := refHolds_any q.rel (d.tick.sv q.xR q.xN) (d.tick.sv q.yR q.yN) w5; rw [hho7] at hho; have HT5 : Hid (_ ∧ _) := HD5.out.tk (o := 19) (by omega); have q19 : w5.cell? ⟨B, 19, none⟩ = some (.int .i64 (p : Int)) := (by rw [HD5.out.p]; show some (Value.int .i64 d.pl) = _; rw [HP.out]); have y10 := hI5.c 10 _ rfl; have HI5 : Hid (CL w5 w1.heap.size q.cells) := hI5; have HWB : Hid (¬ w1.heap.size = B) := (fun e => by have := HD1.out.lt; omega)) | (go_at_call 40; refine hho.mono ?_; clear hho; rintro e w5b ⟨rfl, ew⟩; subst w5b) | (refine wpList_st_int rfl rfl _ _ _ rfl (by decide) B 19 rfl _ rfl HT5.out ?_; intro w6 e6; have HD6 : Hid (DM w6 B d.tick.inc vo vh) := (by show DM _ _ _ _ _; rw [e6]; exact (by rw [← HP.out]; exact HD5.out.setP (d.pl + 1))); have HK6 : Hid (Keeps (fun k => k = B) w w6) := (by show Keeps _ _ _; rw [e6]; exact HK5.out.setCell (p := ⟨B, 19, none⟩) (fun _ => rfl) _); have HT6 : Hid (_ ∧ _) := HD6.out.tk (o := 19) (by omega); replace y10 : w6.cell? ⟨w1.heap.size, 10, none⟩ = some (.int .i64 q.to) := (by rw [e6]; exact ((Keeps.refl (fun k => k = B) w5).setCell (p := ⟨B, 19, none⟩) (fun _ => rfl) _).cell y10 HWB.out); clear e6) | (refine wpList_st_int rfl rfl _ _ _ rfl (by decide) B 19 rfl _ rfl HT6.out ?_; intro w9 e9; have HE : Hid (_ = _) := e9; clear e9))
  go_end0
  have F1 : DM w9 B ({ d.tick.inc with pl := q.to }) vo vh := by rw [HE.out]; exact HD6.out.setP q.to
  have F2 : Keeps (fun k => B ≤ k) w w9 := by rw [HE.out]; exact (HK6.out.mono (fun i _ e => by have e : i = B := e; show B ≤ i; omega)).setCell (p := ⟨B, 19, none⟩) (fun _ => (by show B ≤ B; exact Nat.le_refl _)) _
  first
    | exact ⟨vo, vh, rfl, F1, F2⟩
    | exact ⟨rfl, ⟨vo, vh, F1⟩, F2⟩
set_option maxHeartbeats 1000000 in
set_option maxRecDepth 100000 in
theorem does_7f {w : World} {B : Nat} {d : Ds} {vo vh : Value} (h : DM w B d vo vh) {a0 a ag : Option Addr} {c0 cap cg : Nat} {l : List Ins} {os : List Int} {gs : List (Bool × Int)} (hl : ISL w a0 l) (hlB : ∀ b off, a0 = some ⟨b, off, none⟩ → b < B) (hO : NUM w a os) (hOB : ∀ b off, a = some ⟨b, off, none⟩ → b < B) (hG : GVN w ag gs) (hGB : ∀ b off, ag = some ⟨b, off, none⟩ → b < B) (hn : os.length ≤ 16 ∧ gs.length ≤ 4096 ∧ d.own.length ≤ 100000 ∧ d.held.length ≤ 100000 ∧ d.rd ≤ 100000) (hp : 0 ≤ d.pl ∧ d.pl ≤ 64) (hcn : 0 ≤ d.cnt ∧ d.cnt ≤ 100000) (h64 : l.length ≤ 64) (he : ¬ (l.length : Int) ≤ d.pl) (q : Ins) (hq : l.getD d.pl.toNat ins0 = q) (hc7 : q.code = 7) (hho7 : Go.Proofs.YthchbcfecconbaaGreatDoor.hl q.rel (d.tick.sv q.xR q.xN) (d.tick.sv q.yR q.yN) = false) : Calls Tryz.prog 25 #[.pointer (some ⟨B, 0, none⟩), .slice a0 l.length c0, .slice a os.length cap, .slice ag gs.length cg] w fun e w' => ∃ vo' vh', e = .returned (.tuple #[]) ∧ DM w' B (d.tick.inc) vo' vh' ∧ Keeps (fun k => B ≤ k) w w' := by
  have v20 : IntKind.i64.wrap (d.cnt + 1) = d.cnt + 1 := by rw [IntKind.wrap_i64]; omega
  have p20 := h.k
  have HT : Hid (_ ∧ _) := h.tk (o := 20) (by omega)
  have HH : Hid (DM w B d vo vh) := h
  clear h
  obtain ⟨p, HPe⟩ : ∃ p : Nat, d.pl = (p : Int) := ⟨d.pl.toNat, by omega⟩
  have hpl : p < l.length := by omega
  have i1 : (0 : Int) ≤ (p : Int) := by omega
  have i2 : (p : Int) < (l.length : Int) := by omega
  have b1 : decide ((l.length : Int) ≤ (p : Int)) = false := decide_eq_false (by omega)
  have b2 : decide (l.length ≤ p) = false := decide_eq_false (by omega)
  have HP : Hid (d.pl = (p : Int)) := HPe
  obtain ⟨b, off, rfl, hc⟩ := hl p hpl
  have HBB : Hid (¬ b = B) := fun e => by have := hlB b off rfl; omega
  have eq' : l.getD d.pl.toNat ins0 = l.getD p ins0 := by rw [HPe, Int.toNat_natCast]
  rw [eq'] at hq
  rw [hq] at hc
  have hOC := all_oneCell_ins q
  clear eq' HPe hl hq hpl
  have v19 : IntKind.i64.wrap ((p : Int) + 1) = (p : Int) + 1 := by rw [IntKind.wrap_i64]; omega
  have _u := And.intro hO (And.intro hOB (And.intro hG (And.intro hGB (And.intro hn (And.intro hp (And.intro hcn h64))))))
  clear _u
  clear hO hG hOB hGB hn hlB
  generalize l.length = N0 at *
  generalize os.length = N3 at *
  generalize gs.length = N4 at *
  go_enter Tryz.func25, Tryz.ntmps25
  go_wp2_with (first | (refine wpList_st_int rfl rfl _ _ _ rfl (by decide) B 20 rfl _ rfl HT.out ?_; intro w1 e1; have HD1 : Hid (DM w1 B d.tick vo vh) := (by show DM _ _ _ _ _; rw [e1]; exact HH.out.setK (d.cnt + 1)); have HK1 : Hid (Keeps (fun k => k = B) w w1) := (by show Keeps _ _ _; rw [e1]; exact (Keeps.refl (fun k => k = B) w).setCell (p := ⟨B, 20, none⟩) (fun _ => rfl) _); clear e1; have p19 : w1.cell? ⟨B, 19, none⟩ = some (.int .i64 d.pl) := HD1.out.p; obtain ⟨W4, hW4⟩ : ∃ W4, W4 = w1.alloc (.cells #[.int .i64 0, .int .i64 0, .bool false, .int .i64 0, .bool false, .int .i64 0, .bool false, .int .i64 0, .int .i64 0, .int .i64 0, .int .i64 0] 62) := ⟨_, rfl⟩; have k4 : Keeps (fun _ => False) w1 W4 := (by rw [hW4]; exact (Keeps.refl _ w1).alloc _); have hU4 : CL W4 w1.heap.size ins0.cells := (by rw [hW4]; exact CL.made w1 ins0.cells _); have HW4 : Hid (W4 = w1.alloc (.cells #[.int .i64 0, .int .i64 0, .bool false, .int .i64 0, .bool false, .int .i64 0, .bool false, .int .i64 0, .int .i64 0, .int .i64 0, .int .i64 0] 62)) := hW4; clear hW4; have hR := run_insD (W := w1) (fun j v e => HK1.out.cell (hc j v e) HBB.out); replace p19 : w1.cell? ⟨B, 19, none⟩ = some (.int .i64 (p : Int)) := (by rw [p19, HP.out])) | (refine wpList_load_run rfl 62 _ rfl ⟨b, off + p * 11, none⟩ rfl _ hR ?_; clear hR) | (rw [← HW4.out]; clear HW4; refine wpList_store_cl rfl 62 _ _ rfl w1.heap.size 0 11 _ rfl rfl rfl hU4 (by show 11 ≤ 11; decide) iInD hOC ?_; intro w3 hc3 k3 hsz3; clear hsz3; have hI3 : CL w3 w1.heap.size q.cells := hc3; clear hc3; have K3 : Keeps (fun _ => False) w1 w3 := k4.trans' k3 (fun _ _ e => e) (fun i hi e => (by have e : i = w1.heap.size := e; omega)); have HD3 : Hid (DM w3 B d.tick vo vh) := HD1.out.new K3; have x4 := hI3.c 4 _ rfl; have x5 := hI3.c 5 _ rfl; have hsx := dsource_any HD3.out q.xR q.xN) | (go_at_call 37; refine hsx.mono ?_; clear hsx; rintro e w4 ⟨rfl, k4x⟩; have hI4 := hI3.keep (by show 0 < 11; decide) k4x (fun e => e); have x6 := hI4.c 6 _ rfl; have x7 := hI4.c 7 _ rfl; have hsy := dsource_any (HD3.out.new k4x) q.yR q.yN) | (go_at_call 37; refine hsy.mono ?_; clear hsy; rintro e w5 ⟨rfl, k5⟩; have hI5 := hI4.keep (by show 0 < 11; decide) k5 (fun e => e); have HD5 : Hid (DM w5 B d.tick vo vh) := (HD3.out.new k4x).new k5; have HK5 : Hid (Keeps (fun k => k = B) w w5) := HK1.out.trans (((K3.trans k4x).trans k5).mono (fun _ _ e => e.elim)); have y0 := hI5.c 0 _ rfl; rw [hc7] at y0; have y9 := hI5.c 9 _ rfl; have hho := refHolds_any q.rel (d.tick.sv q.xR q.xN) (d.tick.sv q.yR q.yN) w5; rw [hho7] at hho; have HT5 : Hid (_ ∧ _) := HD5.out.tk (o := 19) (by omega); have q19 : w5.cell? ⟨B, 19, none⟩ = some (.int .i64 (p : Int)) := (by rw [HD5.out.p]; show some (Value.int .i64 d.pl) = _; rw [HP.out])) | (go_at_call 40; refine hho.mono ?_; clear hho; rintro e w5b ⟨rfl, ew⟩; subst w5b) | (refine wpList_st_int rfl rfl _ _ _ rfl (by decide) B 19 rfl _ rfl HT5.out ?_; intro w9 e9; have HE : Hid (_ = _) := e9; clear e9))
  go_end0
  have F1 : DM w9 B (d.tick.inc) vo vh := by rw [HE.out]; exact (by rw [← HP.out]; exact HD5.out.setP (d.pl + 1))
  have F2 : Keeps (fun k => B ≤ k) w w9 := by rw [HE.out]; exact (HK5.out.mono (fun i _ e => by have e : i = B := e; show B ≤ i; omega)).setCell (p := ⟨B, 19, none⟩) (fun _ => (by show B ≤ B; exact Nat.le_refl _)) _
  first
    | exact ⟨vo, vh, rfl, F1, F2⟩
    | exact ⟨rfl, ⟨vo, vh, F1⟩, F2⟩
set_option maxHeartbeats 1000000 in
set_option maxRecDepth 100000 in
theorem does_6 {w : World} {B : Nat} {d : Ds} {vo vh : Value} (h : DM w B d vo vh) {a0 a ag : Option Addr} {c0 cap cg : Nat} {l : List Ins} {os : List Int} {gs : List (Bool × Int)} (hl : ISL w a0 l) (hlB : ∀ b off, a0 = some ⟨b, off, none⟩ → b < B) (hO : NUM w a os) (hOB : ∀ b off, a = some ⟨b, off, none⟩ → b < B) (hG : GVN w ag gs) (hGB : ∀ b off, ag = some ⟨b, off, none⟩ → b < B) (hn : os.length ≤ 16 ∧ gs.length ≤ 4096 ∧ d.own.length ≤ 100000 ∧ d.held.length ≤ 100000 ∧ d.rd ≤ 100000) (hp : 0 ≤ d.pl ∧ d.pl ≤ 64) (hcn : 0 ≤ d.cnt ∧ d.cnt ≤ 100000) (h64 : l.length ≤ 64) (he : ¬ (l.length : Int) ≤ d.pl) (q : Ins) (hq : l.getD d.pl.toNat ins0 = q) (hc6 : q.code = 6) (hdq : 0 ≤ q.dst ∧ q.dst < 16) (hX : In64 (d.tick.sv q.xR q.xN)) (hY : In64 (d.tick.sv q.yR q.yN)) : Calls Tryz.prog 25 #[.pointer (some ⟨B, 0, none⟩), .slice a0 l.length c0, .slice a os.length cap, .slice ag gs.length cg] w fun e w' => ∃ vo' vh', e = .returned (.tuple #[]) ∧ DM w' B ((d.tick.setReg q.dst.toNat (ap q.op (d.tick.sv q.xR q.xN) (d.tick.sv q.yR q.yN))).inc) vo' vh' ∧ Keeps (fun k => B ≤ k) w w' := by
  have v20 : IntKind.i64.wrap (d.cnt + 1) = d.cnt + 1 := by rw [IntKind.wrap_i64]; omega
  have p20 := h.k
  have HT : Hid (_ ∧ _) := h.tk (o := 20) (by omega)
  have HH : Hid (DM w B d vo vh) := h
  clear h
  obtain ⟨p, HPe⟩ : ∃ p : Nat, d.pl = (p : Int) := ⟨d.pl.toNat, by omega⟩
  have hpl : p < l.length := by omega
  have i1 : (0 : Int) ≤ (p : Int) := by omega
  have i2 : (p : Int) < (l.length : Int) := by omega
  have b1 : decide ((l.length : Int) ≤ (p : Int)) = false := decide_eq_false (by omega)
  have b2 : decide (l.length ≤ p) = false := decide_eq_false (by omega)
  have HP : Hid (d.pl = (p : Int)) := HPe
  obtain ⟨b, off, rfl, hc⟩ := hl p hpl
  have HBB : Hid (¬ b = B) := fun e => by have := hlB b off rfl; omega
  have eq' : l.getD d.pl.toNat ins0 = l.getD p ins0 := by rw [HPe, Int.toNat_natCast]
  rw [eq'] at hq
  rw [hq] at hc
  have hOC := all_oneCell_ins q
  clear eq' HPe hl hq hpl
  have v19 : IntKind.i64.wrap ((p : Int) + 1) = (p : Int) + 1 := by rw [IntKind.wrap_i64]; omega
  obtain ⟨r, hr⟩ : ∃ r : Nat, q.dst = (r : Int) := ⟨q.dst.toNat, by omega⟩
  have hr16 : r < 16 := by omega
  have r1 : (0 : Int) ≤ (r : Int) := by omega
  have r2 : (r : Int) < 16 := by omega
  have er : q.dst.toNat = r := by rw [hr]; rfl
  rw [er]
  clear er hdq
  have _u := And.intro hO (And.intro hOB (And.intro hG (And.intro hGB (And.intro hn (And.intro hp (And.intro hcn h64))))))
  clear _u
  clear hO hG hOB hGB hn hlB
  generalize l.length = N0 at *
  generalize os.length = N3 at *
  generalize gs.length = N4 at *
  have HX : Hid (In64 _) := hX
  have HY : Hid (In64 _) := hY
  clear hX hY
  go_enter Tryz.func25, Tryz.ntmps25
  go_wp2_with (first | (refine wpList_st_int rfl rfl _ _ _ rfl (by decide) B 20 rfl _ rfl HT.out ?_; intro w1 e1; have HD1 : Hid (DM w1 B d.tick vo vh) := (by show DM _ _ _ _ _; rw [e1]; exact HH.out.setK (d.cnt + 1)); have HK1 : Hid (Keeps (fun k => k = B) w w1) := (by show Keeps _ _ _; rw [e1]; exact (Keeps.refl (fun k => k = B) w).setCell (p := ⟨B, 20, none⟩) (fun _ => rfl) _); clear e1; have p19 : w1.cell? ⟨B, 19, none⟩ = some (.int .i64 d.pl) := HD1.out.p; obtain ⟨W4, hW4⟩ : ∃ W4, W4 = w1.alloc (.cells #[.int .i64 0, .int .i64 0, .bool false, .int .i64 0, .bool false, .int .i64 0, .bool false, .int .i64 0, .int .i64 0, .int .i64 0, .int .i64 0] 62) := ⟨_, rfl⟩; have k4 : Keeps (fun _ => False) w1 W4 := (by rw [hW4]; exact (Keeps.refl _ w1).alloc _); have hU4 : CL W4 w1.heap.size ins0.cells := (by rw [hW4]; exact CL.made w1 ins0.cells _); have HW4 : Hid (W4 = w1.alloc (.cells #[.int .i64 0, .int .i64 0, .bool false, .int .i64 0, .bool false, .int .i64 0, .bool false, .int .i64 0, .int .i64 0, .int .i64 0, .int .i64 0] 62)) := hW4; clear hW4; have hR := run_insD (W := w1) (fun j v e => HK1.out.cell (hc j v e) HBB.out); replace p19 : w1.cell? ⟨B, 19, none⟩ = some (.int .i64 (p : Int)) := (by rw [p19, HP.out])) | (refine wpList_load_run rfl 62 _ rfl ⟨b, off + p * 11, none⟩ rfl _ hR ?_; clear hR) | (rw [← HW4.out]; clear HW4; refine wpList_store_cl rfl 62 _ _ rfl w1.heap.size 0 11 _ rfl rfl rfl hU4 (by show 11 ≤ 11; decide) iInD hOC ?_; intro w3 hc3 k3 hsz3; clear hsz3; have hI3 : CL w3 w1.heap.size q.cells := hc3; clear hc3; have K3 : Keeps (fun _ => False) w1 w3 := k4.trans' k3 (fun _ _ e => e) (fun i hi e => (by have e : i = w1.heap.size := e; omega)); have HD3 : Hid (DM w3 B d.tick vo vh) := HD1.out.new K3; have x4 := hI3.c 4 _ rfl; have x5 := hI3.c 5 _ rfl; have hsx := dsource_any HD3.out q.xR q.xN) | (go_at_call 37; refine hsx.mono ?_; clear hsx; rintro e w4 ⟨rfl, k4x⟩; have hI4 := hI3.keep (by show 0 < 11; decide) k4x (fun e => e); have x6 := hI4.c 6 _ rfl; have x7 := hI4.c 7 _ rfl; have hsy := dsource_any (HD3.out.new k4x) q.yR q.yN) | (go_at_call 37; refine hsy.mono ?_; clear hsy; rintro e w5 ⟨rfl, k5⟩; have hI5 := hI4.keep (by show 0 < 11; decide) k5 (fun e => e); have HD5 : Hid (DM w5 B d.tick vo vh) := (HD3.out.new k4x).new k5; have HK5 : Hid (Keeps (fun k => k = B) w w5) := HK1.out.trans (((K3.trans k4x).trans k5).mono (fun _ _ e => e.elim)); have y0 := hI5.c 0 _ rfl; rw [hc6] at y0; have y1 := hI5.c 1 _ rfl; rw [hr] at y1; have y8 := hI5.c 8 _ rfl; have hap := refApply_any q.op (d.tick.sv q.xR q.xN) (d.tick.sv q.yR q.yN) HX.out HY.out w5) | (go_at_call 39; refine hap.mono ?_; clear hap; rintro e w5b ⟨rfl, ew⟩; subst w5b))
  have y1d : w5.drew.cell? ⟨w1.heap.size, 1, none⟩ = some (.int .i64 (r : Int)) := y1
  have crd : w5.drew.cell? ⟨B, r, none⟩ = some (.int .i64 (d.tick.regs r)) := HD5.out.r r hr16
  have zrd : w5.drew.frozen? ⟨B, r, none⟩ = false := HD5.out.z r (by omega)
  go_region_with (fail)
  all_goals
    generalize h9 : World.drew (World.setCell _ _ _) = w6
    have HD6 : Hid (DM w6 B (d.tick.setReg r (ap q.op (d.tick.sv q.xR q.xN) (d.tick.sv q.yR q.yN))) vo vh) := by show DM _ _ _ _ _; rw [← h9]; exact (HD5.out.reg hr16 _).new (Keeps.refl (fun _ => False) _).drew
    have HK6 : Hid (Keeps (fun k => k = B) w w6) := by show Keeps _ _ _; rw [← h9]; exact (HK5.out.setCell (p := ⟨B, r, none⟩) (fun _ => rfl) _).drew
    clear h9
    have q19 : w6.cell? ⟨B, 19, none⟩ = some (.int .i64 (p : Int)) := (by rw [HD6.out.p]; show some (Value.int .i64 d.pl) = _; rw [HP.out]); have HT6 : Hid (_ ∧ _) := HD6.out.tk (o := 19) (by omega)
    go_wp2_with (refine wpList_st_int rfl rfl _ _ _ rfl (by decide) B 19 rfl _ rfl HT6.out ?_; intro w9 e9; have HE : Hid (_ = _) := e9; clear e9)
    go_end0
    have F1 : DM w9 B ((d.tick.setReg r (ap q.op (d.tick.sv q.xR q.xN) (d.tick.sv q.yR q.yN))).inc) vo vh := by rw [HE.out]; exact (by rw [← HP.out]; exact HD6.out.setP (d.pl + 1))
    have F2 : Keeps (fun k => B ≤ k) w w9 := by rw [HE.out]; exact (HK6.out.mono (fun i _ e => by have e : i = B := e; show B ≤ i; omega)).setCell (p := ⟨B, 19, none⟩) (fun _ => (by show B ≤ B; exact Nat.le_refl _)) _
    first
      | exact ⟨vo, vh, rfl, F1, F2⟩
      | exact ⟨rfl, ⟨vo, vh, F1⟩, F2⟩
end Go.Proofs.YthchbcfecconbaaGreatDoor

