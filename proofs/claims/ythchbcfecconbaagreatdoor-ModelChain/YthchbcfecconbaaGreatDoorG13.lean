import Derived.Test.YthchbcfecconbaaGreatDoorG11
import Derived.Test.YthchbcfecconbaaGreatDoorG07
namespace Go.Proofs.YthchbcfecconbaaGreatDoor
open Go.RowKit
set_option maxHeartbeats 1000000 in
set_option maxRecDepth 100000 in
theorem does_1 {w : World} {B : Nat} {d : Ds} {vo vh : Value} (h : DM w B d vo vh) {a0 a ag : Option Addr} {c0 cap cg : Nat} {l : List Ins} {os : List Int} {gs : List (Bool × Int)} (hl : ISL w a0 l) (hlB : ∀ b off, a0 = some ⟨b, off, none⟩ → b < B) (hO : NUM w a os) (hOB : ∀ b off, a = some ⟨b, off, none⟩ → b < B) (hG : GVN w ag gs) (hGB : ∀ b off, ag = some ⟨b, off, none⟩ → b < B) (hn : os.length ≤ 16 ∧ gs.length ≤ 4096 ∧ d.own.length ≤ 100000 ∧ d.held.length ≤ 100000 ∧ d.rd ≤ 100000) (hp : 0 ≤ d.pl ∧ d.pl ≤ 64) (hcn : 0 ≤ d.cnt ∧ d.cnt ≤ 100000) (h64 : l.length ≤ 64) (he : ¬ (l.length : Int) ≤ d.pl) (q : Ins) (hq : l.getD d.pl.toNat ins0 = q) (hcc : q.code = 1) (hdq : 0 ≤ q.dst ∧ q.dst < 16) : Calls Tryz.prog 25 #[.pointer (some ⟨B, 0, none⟩), .slice a0 l.length c0, .slice a os.length cap, .slice ag gs.length cg] w fun e w' => ∃ vo' vh', e = .returned (.tuple #[]) ∧ DM w' B (d.tick.tch os gs q) vo' vh' ∧ Keeps (fun k => B ≤ k) w w' := by
  have v20 : IntKind.i64.wrap (d.cnt + 1) = d.cnt + 1 := by rw [IntKind.wrap_i64]; omega
  have p20 := h.k
  have HT : Hid (_ ∧ _) := h.tk (o := 20) (by omega)
  have HH : Hid (DM w B d vo vh) := h
  clear h
  obtain ⟨p, HPe⟩ : ∃ p : Nat, d.pl = (p : Int) := ⟨d.pl.toNat, by omega⟩
  have hpl : p < l.length := by omega
  have i1 : (0 : Int) ≤ (p : Int) := by omega
  have i2 : (p : Int) < (l.length : Int) := by omega
  have b1 : decide ((l.length : Int) ≤ (p : Int)) = false := decide_eq_false (by omega)
  have b2 : decide (l.length ≤ p) = false := decide_eq_false (by omega)
  have HP : Hid (d.pl = (p : Int)) := HPe
  obtain ⟨b, off, rfl, hc⟩ := hl p hpl
  have HBB : Hid (¬ b = B) := fun e => by have := hlB b off rfl; omega
  have eq' : l.getD d.pl.toNat ins0 = l.getD p ins0 := by rw [HPe, Int.toNat_natCast]
  rw [eq'] at hq
  rw [hq] at hc
  have hOC := all_oneCell_ins q
  clear eq' HPe hl hq hpl
  have HTC : Hid (∀ {w : World} {vo vh : Value}, DM w B d.tick vo vh → NUM w a os → GVN w ag gs → Calls Tryz.prog 38 #[.pointer (some ⟨B, 0, none⟩), .agg q.cells.toArray, .slice a os.length cap, .slice ag gs.length cg] w fun e w' => ∃ vo' vh', e = .returned (.tuple #[]) ∧ DM w' B (d.tick.tch os gs q) vo' vh' ∧ Keeps (fun k => B ≤ k) w w') := fun {w vo vh} h1 h2 h3 => touches_any h1 h2 hOB h3 hGB q hn (by show 0 ≤ d.pl ∧ d.pl ≤ 100000; omega) (by omega) (by first | exact fun _ => hdq | exact fun e => by omega)
  have HO1 : Hid (∀ {w1 : World}, Keeps (fun k => k = B) w w1 → NUM w1 a os) := fun {w1} k i y e => by obtain ⟨b, off, e1, e3⟩ := hO i y e; exact ⟨b, off, e1, k.cell e3 (by have := hOB b off e1; show ¬ b = B; omega)⟩
  have HG1 : Hid (∀ {w1 : World}, Keeps (fun k => k = B) w w1 → GVN w1 ag gs) := fun {w1} k i y e => by obtain ⟨b, off, e1, e3, e4⟩ := hG i y e; exact ⟨b, off, e1, k.cell e3 (by have := hGB b off e1; show ¬ b = B; omega), k.cell e4 (by have := hGB b off e1; show ¬ b = B; omega)⟩
  have _u := And.intro hO (And.intro hOB (And.intro hG (And.intro hGB (And.intro hn (And.intro hp (And.intro hcn h64))))))
  clear _u
  clear hO hG hOB hGB hn hlB
  generalize l.length = N0 at *
  go_enter Tryz.func25, Tryz.ntmps25
  go_wp2_with (first | (refine wpList_st_int rfl rfl _ _ _ rfl (by decide) B 20 rfl _ rfl HT.out ?_; intro w1 e1; have HD1 : Hid (DM w1 B d.tick vo vh) := (by show DM _ _ _ _ _; rw [e1]; exact HH.out.setK (d.cnt + 1)); have HK1 : Hid (Keeps (fun k => k = B) w w1) := (by show Keeps _ _ _; rw [e1]; exact (Keeps.refl (fun k => k = B) w).setCell (p := ⟨B, 20, none⟩) (fun _ => rfl) _); clear e1; have p19 : w1.cell? ⟨B, 19, none⟩ = some (.int .i64 d.pl) := HD1.out.p; obtain ⟨W4, hW4⟩ : ∃ W4, W4 = w1.alloc (.cells #[.int .i64 0, .int .i64 0, .bool false, .int .i64 0, .bool false, .int .i64 0, .bool false, .int .i64 0, .int .i64 0, .int .i64 0, .int .i64 0] 62) := ⟨_, rfl⟩; have k4 : Keeps (fun _ => False) w1 W4 := (by rw [hW4]; exact (Keeps.refl _ w1).alloc _); have hU4 : CL W4 w1.heap.size ins0.cells := (by rw [hW4]; exact CL.made w1 ins0.cells _); have HW4 : Hid (W4 = w1.alloc (.cells #[.int .i64 0, .int .i64 0, .bool false, .int .i64 0, .bool false, .int .i64 0, .bool false, .int .i64 0, .int .i64 0, .int .i64 0, .int .i64 0] 62)) := hW4; clear hW4; have hR := run_insD (W := w1) (fun j v e => HK1.out.cell (hc j v e) HBB.out); replace p19 : w1.cell? ⟨B, 19, none⟩ = some (.int .i64 (p : Int)) := (by rw [p19, HP.out])) | (refine wpList_load_run rfl 62 _ rfl ⟨b, off + p * 11, none⟩ rfl _ hR ?_; clear hR) | (rw [← HW4.out]; clear HW4; refine wpList_store_cl rfl 62 _ _ rfl w1.heap.size 0 11 _ rfl rfl rfl hU4 (by show 11 ≤ 11; decide) iInD hOC ?_; intro w3 hc3 k3 hsz3; clear hsz3; have hI3 : CL w3 w1.heap.size q.cells := hc3; clear hc3; have K3 : Keeps (fun _ => False) w1 w3 := k4.trans' k3 (fun _ _ e => e) (fun i hi e => (by have e : i = w1.heap.size := e; omega)); have HD3 : Hid (DM w3 B d.tick vo vh) := HD1.out.new K3; have x4 := hI3.c 4 _ rfl; have x5 := hI3.c 5 _ rfl; have hsx := dsource_any HD3.out q.xR q.xN) | (go_at_call 37; refine hsx.mono ?_; clear hsx; rintro e w4 ⟨rfl, k4x⟩; have hI4 := hI3.keep (by show 0 < 11; decide) k4x (fun e => e); have x6 := hI4.c 6 _ rfl; have x7 := hI4.c 7 _ rfl; have hsy := dsource_any (HD3.out.new k4x) q.yR q.yN) | (go_at_call 37; refine hsy.mono ?_; clear hsy; rintro e w5 ⟨rfl, k5⟩; have hI5 := hI4.keep (by show 0 < 11; decide) k5 (fun e => e); have HD5 : Hid (DM w5 B d.tick vo vh) := (HD3.out.new k4x).new k5; have HK5 : Hid (Keeps (fun k => k = B) w w5) := HK1.out.trans (((K3.trans k4x).trans k5).mono (fun _ _ e => e.elim)); have y0 := hI5.c 0 _ rfl; rw [hcc] at y0; have hR5 := run_insD (W := w5) (b := w1.heap.size) (o := 0) (q := q) (fun j v e => by rw [Nat.zero_add]; exact hI5.c j v e); have htc := HTC.out HD5.out (HO1.out HK5.out) (HG1.out HK5.out)) | (refine wpList_load_run rfl 62 _ rfl ⟨w1.heap.size, 0, none⟩ rfl _ hR5 ?_; clear hR5) | (go_at_call 38; refine htc.mono ?_; clear htc; rintro e w9 ⟨vo9, vh9, rfl, hd9, k9⟩; have HD9 : Hid (DM _ _ _ _ _) := hd9; clear hd9))
  go_end0
  exact ⟨vo9, vh9, rfl, HD9.out, (HK5.out.mono (fun i _ e => by have e : i = B := e; show B ≤ i; omega)).trans k9⟩
set_option maxHeartbeats 1000000 in
set_option maxRecDepth 100000 in
theorem does_2 {w : World} {B : Nat} {d : Ds} {vo vh : Value} (h : DM w B d vo vh) {a0 a ag : Option Addr} {c0 cap cg : Nat} {l : List Ins} {os : List Int} {gs : List (Bool × Int)} (hl : ISL w a0 l) (hlB : ∀ b off, a0 = some ⟨b, off, none⟩ → b < B) (hO : NUM w a os) (hOB : ∀ b off, a = some ⟨b, off, none⟩ → b < B) (hG : GVN w ag gs) (hGB : ∀ b off, ag = some ⟨b, off, none⟩ → b < B) (hn : os.length ≤ 16 ∧ gs.length ≤ 4096 ∧ d.own.length ≤ 100000 ∧ d.held.length ≤ 100000 ∧ d.rd ≤ 100000) (hp : 0 ≤ d.pl ∧ d.pl ≤ 64) (hcn : 0 ≤ d.cnt ∧ d.cnt ≤ 100000) (h64 : l.length ≤ 64) (he : ¬ (l.length : Int) ≤ d.pl) (q : Ins) (hq : l.getD d.pl.toNat ins0 = q) (hcc : q.code = 2) (hdq : 0 ≤ q.dst ∧ q.dst < 16) : Calls Tryz.prog 25 #[.pointer (some ⟨B, 0, none⟩), .slice a0 l.length c0, .slice a os.length cap, .slice ag gs.length cg] w fun e w' => ∃ vo' vh', e = .returned (.tuple #[]) ∧ DM w' B (d.tick.tch os gs q) vo' vh' ∧ Keeps (fun k => B ≤ k) w w' := by
  have v20 : IntKind.i64.wrap (d.cnt + 1) = d.cnt + 1 := by rw [IntKind.wrap_i64]; omega
  have p20 := h.k
  have HT : Hid (_ ∧ _) := h.tk (o := 20) (by omega)
  have HH : Hid (DM w B d vo vh) := h
  clear h
  obtain ⟨p, HPe⟩ : ∃ p : Nat, d.pl = (p : Int) := ⟨d.pl.toNat, by omega⟩
  have hpl : p < l.length := by omega
  have i1 : (0 : Int) ≤ (p : Int) := by omega
  have i2 : (p : Int) < (l.length : Int) := by omega
  have b1 : decide ((l.length : Int) ≤ (p : Int)) = false := decide_eq_false (by omega)
  have b2 : decide (l.length ≤ p) = false := decide_eq_false (by omega)
  have HP : Hid (d.pl = (p : Int)) := HPe
  obtain ⟨b, off, rfl, hc⟩ := hl p hpl
  have HBB : Hid (¬ b = B) := fun e => by have := hlB b off rfl; omega
  have eq' : l.getD d.pl.toNat ins0 = l.getD p ins0 := by rw [HPe, Int.toNat_natCast]
  rw [eq'] at hq
  rw [hq] at hc
  have hOC := all_oneCell_ins q
  clear eq' HPe hl hq hpl
  have HTC : Hid (∀ {w : World} {vo vh : Value}, DM w B d.tick vo vh → NUM w a os → GVN w ag gs → Calls Tryz.prog 38 #[.pointer (some ⟨B, 0, none⟩), .agg q.cells.toArray, .slice a os.length cap, .slice ag gs.length cg] w fun e w' => ∃ vo' vh', e = .returned (.tuple #[]) ∧ DM w' B (d.tick.tch os gs q) vo' vh' ∧ Keeps (fun k => B ≤ k) w w') := fun {w vo vh} h1 h2 h3 => touches_any h1 h2 hOB h3 hGB q hn (by show 0 ≤ d.pl ∧ d.pl ≤ 100000; omega) (by omega) (by first | exact fun _ => hdq | exact fun e => by omega)
  have HO1 : Hid (∀ {w1 : World}, Keeps (fun k => k = B) w w1 → NUM w1 a os) := fun {w1} k i y e => by obtain ⟨b, off, e1, e3⟩ := hO i y e; exact ⟨b, off, e1, k.cell e3 (by have := hOB b off e1; show ¬ b = B; omega)⟩
  have HG1 : Hid (∀ {w1 : World}, Keeps (fun k => k = B) w w1 → GVN w1 ag gs) := fun {w1} k i y e => by obtain ⟨b, off, e1, e3, e4⟩ := hG i y e; exact ⟨b, off, e1, k.cell e3 (by have := hGB b off e1; show ¬ b = B; omega), k.cell e4 (by have := hGB b off e1; show ¬ b = B; omega)⟩
  have _u := And.intro hO (And.intro hOB (And.intro hG (And.intro hGB (And.intro hn (And.intro hp (And.intro hcn h64))))))
  clear _u
  clear hO hG hOB hGB hn hlB
  generalize l.length = N0 at *
  go_enter Tryz.func25, Tryz.ntmps25
  go_wp2_with (first | (refine wpList_st_int rfl rfl _ _ _ rfl (by decide) B 20 rfl _ rfl HT.out ?_; intro w1 e1; have HD1 : Hid (DM w1 B d.tick vo vh) := (by show DM _ _ _ _ _; rw [e1]; exact HH.out.setK (d.cnt + 1)); have HK1 : Hid (Keeps (fun k => k = B) w w1) := (by show Keeps _ _ _; rw [e1]; exact (Keeps.refl (fun k => k = B) w).setCell (p := ⟨B, 20, none⟩) (fun _ => rfl) _); clear e1; have p19 : w1.cell? ⟨B, 19, none⟩ = some (.int .i64 d.pl) := HD1.out.p; obtain ⟨W4, hW4⟩ : ∃ W4, W4 = w1.alloc (.cells #[.int .i64 0, .int .i64 0, .bool false, .int .i64 0, .bool false, .int .i64 0, .bool false, .int .i64 0, .int .i64 0, .int .i64 0, .int .i64 0] 62) := ⟨_, rfl⟩; have k4 : Keeps (fun _ => False) w1 W4 := (by rw [hW4]; exact (Keeps.refl _ w1).alloc _); have hU4 : CL W4 w1.heap.size ins0.cells := (by rw [hW4]; exact CL.made w1 ins0.cells _); have HW4 : Hid (W4 = w1.alloc (.cells #[.int .i64 0, .int .i64 0, .bool false, .int .i64 0, .bool false, .int .i64 0, .bool false, .int .i64 0, .int .i64 0, .int .i64 0, .int .i64 0] 62)) := hW4; clear hW4; have hR := run_insD (W := w1) (fun j v e => HK1.out.cell (hc j v e) HBB.out); replace p19 : w1.cell? ⟨B, 19, none⟩ = some (.int .i64 (p : Int)) := (by rw [p19, HP.out])) | (refine wpList_load_run rfl 62 _ rfl ⟨b, off + p * 11, none⟩ rfl _ hR ?_; clear hR) | (rw [← HW4.out]; clear HW4; refine wpList_store_cl rfl 62 _ _ rfl w1.heap.size 0 11 _ rfl rfl rfl hU4 (by show 11 ≤ 11; decide) iInD hOC ?_; intro w3 hc3 k3 hsz3; clear hsz3; have hI3 : CL w3 w1.heap.size q.cells := hc3; clear hc3; have K3 : Keeps (fun _ => False) w1 w3 := k4.trans' k3 (fun _ _ e => e) (fun i hi e => (by have e : i = w1.heap.size := e; omega)); have HD3 : Hid (DM w3 B d.tick vo vh) := HD1.out.new K3; have x4 := hI3.c 4 _ rfl; have x5 := hI3.c 5 _ rfl; have hsx := dsource_any HD3.out q.xR q.xN) | (go_at_call 37; refine hsx.mono ?_; clear hsx; rintro e w4 ⟨rfl, k4x⟩; have hI4 := hI3.keep (by show 0 < 11; decide) k4x (fun e => e); have x6 := hI4.c 6 _ rfl; have x7 := hI4.c 7 _ rfl; have hsy := dsource_any (HD3.out.new k4x) q.yR q.yN) | (go_at_call 37; refine hsy.mono ?_; clear hsy; rintro e w5 ⟨rfl, k5⟩; have hI5 := hI4.keep (by show 0 < 11; decide) k5 (fun e => e); have HD5 : Hid (DM w5 B d.tick vo vh) := (HD3.out.new k4x).new k5; have HK5 : Hid (Keeps (fun k => k = B) w w5) := HK1.out.trans (((K3.trans k4x).trans k5).mono (fun _ _ e => e.elim)); have y0 := hI5.c 0 _ rfl; rw [hcc] at y0; have hR5 := run_insD (W := w5) (b := w1.heap.size) (o := 0) (q := q) (fun j v e => by rw [Nat.zero_add]; exact hI5.c j v e); have htc := HTC.out HD5.out (HO1.out HK5.out) (HG1.out HK5.out)) | (refine wpList_load_run rfl 62 _ rfl ⟨w1.heap.size, 0, none⟩ rfl _ hR5 ?_; clear hR5) | (go_at_call 38; refine htc.mono ?_; clear htc; rintro e w9 ⟨vo9, vh9, rfl, hd9, k9⟩; have HD9 : Hid (DM _ _ _ _ _) := hd9; clear hd9))
  go_end0
  exact ⟨vo9, vh9, rfl, HD9.out, (HK5.out.mono (fun i _ e => by have e : i = B := e; show B ≤ i; omega)).trans k9⟩
set_option maxHeartbeats 1000000 in
set_option maxRecDepth 100000 in
theorem does_3 {w : World} {B : Nat} {d : Ds} {vo vh : Value} (h : DM w B d vo vh) {a0 a ag : Option Addr} {c0 cap cg : Nat} {l : List Ins} {os : List Int} {gs : List (Bool × Int)} (hl : ISL w a0 l) (hlB : ∀ b off, a0 = some ⟨b, off, none⟩ → b < B) (hO : NUM w a os) (hOB : ∀ b off, a = some ⟨b, off, none⟩ → b < B) (hG : GVN w ag gs) (hGB : ∀ b off, ag = some ⟨b, off, none⟩ → b < B) (hn : os.length ≤ 16 ∧ gs.length ≤ 4096 ∧ d.own.length ≤ 100000 ∧ d.held.length ≤ 100000 ∧ d.rd ≤ 100000) (hp : 0 ≤ d.pl ∧ d.pl ≤ 64) (hcn : 0 ≤ d.cnt ∧ d.cnt ≤ 100000) (h64 : l.length ≤ 64) (he : ¬ (l.length : Int) ≤ d.pl) (q : Ins) (hq : l.getD d.pl.toNat ins0 = q) (hcc : q.code = 3) : Calls Tryz.prog 25 #[.pointer (some ⟨B, 0, none⟩), .slice a0 l.length c0, .slice a os.length cap, .slice ag gs.length cg] w fun e w' => ∃ vo' vh', e = .returned (.tuple #[]) ∧ DM w' B (d.tick.tch os gs q) vo' vh' ∧ Keeps (fun k => B ≤ k) w w' := by
  have v20 : IntKind.i64.wrap (d.cnt + 1) = d.cnt + 1 := by rw [IntKind.wrap_i64]; omega
  have p20 := h.k
  have HT : Hid (_ ∧ _) := h.tk (o := 20) (by omega)
  have HH : Hid (DM w B d vo vh) := h
  clear h
  obtain ⟨p, HPe⟩ : ∃ p : Nat, d.pl = (p : Int) := ⟨d.pl.toNat, by omega⟩
  have hpl : p < l.length := by omega
  have i1 : (0 : Int) ≤ (p : Int) := by omega
  have i2 : (p : Int) < (l.length : Int) := by omega
  have b1 : decide ((l.length : Int) ≤ (p : Int)) = false := decide_eq_false (by omega)
  have b2 : decide (l.length ≤ p) = false := decide_eq_false (by omega)
  have HP : Hid (d.pl = (p : Int)) := HPe
  obtain ⟨b, off, rfl, hc⟩ := hl p hpl
  have HBB : Hid (¬ b = B) := fun e => by have := hlB b off rfl; omega
  have eq' : l.getD d.pl.toNat ins0 = l.getD p ins0 := by rw [HPe, Int.toNat_natCast]
  rw [eq'] at hq
  rw [hq] at hc
  have hOC := all_oneCell_ins q
  clear eq' HPe hl hq hpl
  have HTC : Hid (∀ {w : World} {vo vh : Value}, DM w B d.tick vo vh → NUM w a os → GVN w ag gs → Calls Tryz.prog 38 #[.pointer (some ⟨B, 0, none⟩), .agg q.cells.toArray, .slice a os.length cap, .slice ag gs.length cg] w fun e w' => ∃ vo' vh', e = .returned (.tuple #[]) ∧ DM w' B (d.tick.tch os gs q) vo' vh' ∧ Keeps (fun k => B ≤ k) w w') := fun {w vo vh} h1 h2 h3 => touches_any h1 h2 hOB h3 hGB q hn (by show 0 ≤ d.pl ∧ d.pl ≤ 100000; omega) (by omega) (by first | exact fun _ => hdq | exact fun e => by omega)
  have HO1 : Hid (∀ {w1 : World}, Keeps (fun k => k = B) w w1 → NUM w1 a os) := fun {w1} k i y e => by obtain ⟨b, off, e1, e3⟩ := hO i y e; exact ⟨b, off, e1, k.cell e3 (by have := hOB b off e1; show ¬ b = B; omega)⟩
  have HG1 : Hid (∀ {w1 : World}, Keeps (fun k => k = B) w w1 → GVN w1 ag gs) := fun {w1} k i y e => by obtain ⟨b, off, e1, e3, e4⟩ := hG i y e; exact ⟨b, off, e1, k.cell e3 (by have := hGB b off e1; show ¬ b = B; omega), k.cell e4 (by have := hGB b off e1; show ¬ b = B; omega)⟩
  have _u := And.intro hO (And.intro hOB (And.intro hG (And.intro hGB (And.intro hn (And.intro hp (And.intro hcn h64))))))
  clear _u
  clear hO hG hOB hGB hn hlB
  generalize l.length = N0 at *
  go_enter Tryz.func25, Tryz.ntmps25
  go_wp2_with (first | (refine wpList_st_int rfl rfl _ _ _ rfl (by decide) B 20 rfl _ rfl HT.out ?_; intro w1 e1; have HD1 : Hid (DM w1 B d.tick vo vh) := (by show DM _ _ _ _ _; rw [e1]; exact HH.out.setK (d.cnt + 1)); have HK1 : Hid (Keeps (fun k => k = B) w w1) := (by show Keeps _ _ _; rw [e1]; exact (Keeps.refl (fun k => k = B) w).setCell (p := ⟨B, 20, none⟩) (fun _ => rfl) _); clear e1; have p19 : w1.cell? ⟨B, 19, none⟩ = some (.int .i64 d.pl) := HD1.out.p; obtain ⟨W4, hW4⟩ : ∃ W4, W4 = w1.alloc (.cells #[.int .i64 0, .int .i64 0, .bool false, .int .i64 0, .bool false, .int .i64 0, .bool false, .int .i64 0, .int .i64 0, .int .i64 0, .int .i64 0] 62) := ⟨_, rfl⟩; have k4 : Keeps (fun _ => False) w1 W4 := (by rw [hW4]; exact (Keeps.refl _ w1).alloc _); have hU4 : CL W4 w1.heap.size ins0.cells := (by rw [hW4]; exact CL.made w1 ins0.cells _); have HW4 : Hid (W4 = w1.alloc (.cells #[.int .i64 0, .int .i64 0, .bool false, .int .i64 0, .bool false, .int .i64 0, .bool false, .int .i64 0, .int .i64 0, .int .i64 0, .int .i64 0] 62)) := hW4; clear hW4; have hR := run_insD (W := w1) (fun j v e => HK1.out.cell (hc j v e) HBB.out); replace p19 : w1.cell? ⟨B, 19, none⟩ = some (.int .i64 (p : Int)) := (by rw [p19, HP.out])) | (refine wpList_load_run rfl 62 _ rfl ⟨b, off + p * 11, none⟩ rfl _ hR ?_; clear hR) | (rw [← HW4.out]; clear HW4; refine wpList_store_cl rfl 62 _ _ rfl w1.heap.size 0 11 _ rfl rfl rfl hU4 (by show 11 ≤ 11; decide) iInD hOC ?_; intro w3 hc3 k3 hsz3; clear hsz3; have hI3 : CL w3 w1.heap.size q.cells := hc3; clear hc3; have K3 : Keeps (fun _ => False) w1 w3 := k4.trans' k3 (fun _ _ e => e) (fun i hi e => (by have e : i = w1.heap.size := e; omega)); have HD3 : Hid (DM w3 B d.tick vo vh) := HD1.out.new K3; have x4 := hI3.c 4 _ rfl; have x5 := hI3.c 5 _ rfl; have hsx := dsource_any HD3.out q.xR q.xN) | (go_at_call 37; refine hsx.mono ?_; clear hsx; rintro e w4 ⟨rfl, k4x⟩; have hI4 := hI3.keep (by show 0 < 11; decide) k4x (fun e => e); have x6 := hI4.c 6 _ rfl; have x7 := hI4.c 7 _ rfl; have hsy := dsource_any (HD3.out.new k4x) q.yR q.yN) | (go_at_call 37; refine hsy.mono ?_; clear hsy; rintro e w5 ⟨rfl, k5⟩; have hI5 := hI4.keep (by show 0 < 11; decide) k5 (fun e => e); have HD5 : Hid (DM w5 B d.tick vo vh) := (HD3.out.new k4x).new k5; have HK5 : Hid (Keeps (fun k => k = B) w w5) := HK1.out.trans (((K3.trans k4x).trans k5).mono (fun _ _ e => e.elim)); have y0 := hI5.c 0 _ rfl; rw [hcc] at y0; have hR5 := run_insD (W := w5) (b := w1.heap.size) (o := 0) (q := q) (fun j v e => by rw [Nat.zero_add]; exact hI5.c j v e); have htc := HTC.out HD5.out (HO1.out HK5.out) (HG1.out HK5.out)) | (refine wpList_load_run rfl 62 _ rfl ⟨w1.heap.size, 0, none⟩ rfl _ hR5 ?_; clear hR5) | (go_at_call 38; refine htc.mono ?_; clear htc; rintro e w9 ⟨vo9, vh9, rfl, hd9, k9⟩; have HD9 : Hid (DM _ _ _ _ _) := hd9; clear hd9))
  go_end0
  exact ⟨vo9, vh9, rfl, HD9.out, (HK5.out.mono (fun i _ e => by have e : i = B := e; show B ≤ i; omega)).trans k9⟩
set_option maxHeartbeats 1000000 in
set_option maxRecDepth 100000 in
theorem does_4 {w : World} {B : Nat} {d : Ds} {vo vh : Value} (h : DM w B d vo vh) {a0 a ag : Option Addr} {c0 cap cg : Nat} {l : List Ins} {os : List Int} {gs : List (Bool × Int)} (hl : ISL w a0 l) (hlB : ∀ b off, a0 = some ⟨b, off, none⟩ → b < B) (hO : NUM w a os) (hOB : ∀ b off, a = some ⟨b, off, none⟩ → b < B) (hG : GVN w ag gs) (hGB : ∀ b off, ag = some ⟨b, off, none⟩ → b < B) (hn : os.length ≤ 16 ∧ gs.length ≤ 4096 ∧ d.own.length ≤ 100000 ∧ d.held.length ≤ 100000 ∧ d.rd ≤ 100000) (hp : 0 ≤ d.pl ∧ d.pl ≤ 64) (hcn : 0 ≤ d.cnt ∧ d.cnt ≤ 100000) (h64 : l.length ≤ 64) (he : ¬ (l.length : Int) ≤ d.pl) (q : Ins) (hq : l.getD d.pl.toNat ins0 = q) (hcc : q.code = 4) : Calls Tryz.prog 25 #[.pointer (some ⟨B, 0, none⟩), .slice a0 l.length c0, .slice a os.length cap, .slice ag gs.length cg] w fun e w' => ∃ vo' vh', e = .returned (.tuple #[]) ∧ DM w' B (d.tick.tch os gs q) vo' vh' ∧ Keeps (fun k => B ≤ k) w w' := by
  have v20 : IntKind.i64.wrap (d.cnt + 1) = d.cnt + 1 := by rw [IntKind.wrap_i64]; omega
  have p20 := h.k
  have HT : Hid (_ ∧ _) := h.tk (o := 20) (by omega)
  have HH : Hid (DM w B d vo vh) := h
  clear h
  obtain ⟨p, HPe⟩ : ∃ p : Nat, d.pl = (p : Int) := ⟨d.pl.toNat, by omega⟩
  have hpl : p < l.length := by omega
  have i1 : (0 : Int) ≤ (p : Int) := by omega
  have i2 : (p : Int) < (l.length : Int) := by omega
  have b1 : decide ((l.length : Int) ≤ (p : Int)) = false := decide_eq_false (by omega)
  have b2 : decide (l.length ≤ p) = false := decide_eq_false (by omega)
  have HP : Hid (d.pl = (p : Int)) := HPe
  obtain ⟨b, off, rfl, hc⟩ := hl p hpl
  have HBB : Hid (¬ b = B) := fun e => by have := hlB b off rfl; omega
  have eq' : l.getD d.pl.toNat ins0 = l.getD p ins0 := by rw [HPe, Int.toNat_natCast]
  rw [eq'] at hq
  rw [hq] at hc
  have hOC := all_oneCell_ins q
  clear eq' HPe hl hq hpl
  have HTC : Hid (∀ {w : World} {vo vh : Value}, DM w B d.tick vo vh → NUM w a os → GVN w ag gs → Calls Tryz.prog 38 #[.pointer (some ⟨B, 0, none⟩), .agg q.cells.toArray, .slice a os.length cap, .slice ag gs.length cg] w fun e w' => ∃ vo' vh', e = .returned (.tuple #[]) ∧ DM w' B (d.tick.tch os gs q) vo' vh' ∧ Keeps (fun k => B ≤ k) w w') := fun {w vo vh} h1 h2 h3 => touches_any h1 h2 hOB h3 hGB q hn (by show 0 ≤ d.pl ∧ d.pl ≤ 100000; omega) (by omega) (by first | exact fun _ => hdq | exact fun e => by omega)
  have HO1 : Hid (∀ {w1 : World}, Keeps (fun k => k = B) w w1 → NUM w1 a os) := fun {w1} k i y e => by obtain ⟨b, off, e1, e3⟩ := hO i y e; exact ⟨b, off, e1, k.cell e3 (by have := hOB b off e1; show ¬ b = B; omega)⟩
  have HG1 : Hid (∀ {w1 : World}, Keeps (fun k => k = B) w w1 → GVN w1 ag gs) := fun {w1} k i y e => by obtain ⟨b, off, e1, e3, e4⟩ := hG i y e; exact ⟨b, off, e1, k.cell e3 (by have := hGB b off e1; show ¬ b = B; omega), k.cell e4 (by have := hGB b off e1; show ¬ b = B; omega)⟩
  have _u := And.intro hO (And.intro hOB (And.intro hG (And.intro hGB (And.intro hn (And.intro hp (And.intro hcn h64))))))
  clear _u
  clear hO hG hOB hGB hn hlB
  generalize l.length = N0 at *
  go_enter Tryz.func25, Tryz.ntmps25
  go_wp2_with (first | (refine wpList_st_int rfl rfl _ _ _ rfl (by decide) B 20 rfl _ rfl HT.out ?_; intro w1 e1; have HD1 : Hid (DM w1 B d.tick vo vh) := (by show DM _ _ _ _ _; rw [e1]; exact HH.out.setK (d.cnt + 1)); have HK1 : Hid (Keeps (fun k => k = B) w w1) := (by show Keeps _ _ _; rw [e1]; exact (Keeps.refl (fun k => k = B) w).setCell (p := ⟨B, 20, none⟩) (fun _ => rfl) _); clear e1; have p19 : w1.cell? ⟨B, 19, none⟩ = some (.int .i64 d.pl) := HD1.out.p; obtain ⟨W4, hW4⟩ : ∃ W4, W4 = w1.alloc (.cells #[.int .i64 0, .int .i64 0, .bool false, .int .i64 0, .bool false, .int .i64 0, .bool false, .int .i64 0, .int .i64 0, .int .i64 0, .int .i64 0] 62) := ⟨_, rfl⟩; have k4 : Keeps (fun _ => False) w1 W4 := (by rw [hW4]; exact (Keeps.refl _ w1).alloc _); have hU4 : CL W4 w1.heap.size ins0.cells := (by rw [hW4]; exact CL.made w1 ins0.cells _); have HW4 : Hid (W4 = w1.alloc (.cells #[.int .i64 0, .int .i64 0, .bool false, .int .i64 0, .bool false, .int .i64 0, .bool false, .int .i64 0, .int .i64 0, .int .i64 0, .int .i64 0] 62)) := hW4; clear hW4; have hR := run_insD (W := w1) (fun j v e => HK1.out.cell (hc j v e) HBB.out); replace p19 : w1.cell? ⟨B, 19, none⟩ = some (.int .i64 (p : Int)) := (by rw [p19, HP.out])) | (refine wpList_load_run rfl 62 _ rfl ⟨b, off + p * 11, none⟩ rfl _ hR ?_; clear hR) | (rw [← HW4.out]; clear HW4; refine wpList_store_cl rfl 62 _ _ rfl w1.heap.size 0 11 _ rfl rfl rfl hU4 (by show 11 ≤ 11; decide) iInD hOC ?_; intro w3 hc3 k3 hsz3; clear hsz3; have hI3 : CL w3 w1.heap.size q.cells := hc3; clear hc3; have K3 : Keeps (fun _ => False) w1 w3 := k4.trans' k3 (fun _ _ e => e) (fun i hi e => (by have e : i = w1.heap.size := e; omega)); have HD3 : Hid (DM w3 B d.tick vo vh) := HD1.out.new K3; have x4 := hI3.c 4 _ rfl; have x5 := hI3.c 5 _ rfl; have hsx := dsource_any HD3.out q.xR q.xN) | (go_at_call 37; refine hsx.mono ?_; clear hsx; rintro e w4 ⟨rfl, k4x⟩; have hI4 := hI3.keep (by show 0 < 11; decide) k4x (fun e => e); have x6 := hI4.c 6 _ rfl; have x7 := hI4.c 7 _ rfl; have hsy := dsource_any (HD3.out.new k4x) q.yR q.yN) | (go_at_call 37; refine hsy.mono ?_; clear hsy; rintro e w5 ⟨rfl, k5⟩; have hI5 := hI4.keep (by show 0 < 11; decide) k5 (fun e => e); have HD5 : Hid (DM w5 B d.tick vo vh) := (HD3.out.new k4x).new k5; have HK5 : Hid (Keeps (fun k => k = B) w w5) := HK1.out.trans (((K3.trans k4x).trans k5).mono (fun _ _ e => e.elim)); have y0 := hI5.c 0 _ rfl; rw [hcc] at y0; have hR5 := run_insD (W := w5) (b := w1.heap.size) (o := 0) (q := q) (fun j v e => by rw [Nat.zero_add]; exact hI5.c j v e); have htc := HTC.out HD5.out (HO1.out HK5.out) (HG1.out HK5.out)) | (refine wpList_load_run rfl 62 _ rfl ⟨w1.heap.size, 0, none⟩ rfl _ hR5 ?_; clear hR5) | (go_at_call 38; refine htc.mono ?_; clear htc; rintro e w9 ⟨vo9, vh9, rfl, hd9, k9⟩; have HD9 : Hid (DM _ _ _ _ _) := hd9; clear hd9))
  go_end0
  exact ⟨vo9, vh9, rfl, HD9.out, (HK5.out.mono (fun i _ e => by have e : i = B := e; show B ≤ i; omega)).trans k9⟩
end Go.Proofs.YthchbcfecconbaaGreatDoor

namespace Go.Proofs.YthchbcfecconbaaGreatDoor
open Go.RowKit
structure DQ (s : Rs) (d : Ds) : Prop where
  r : DR s d
  c : d.oc = s.oc
  u : d.rs = s.rs
  p : s.oc = 0 → d.pl = s.pl
  z : s.oc = 0 → s.rs = 0
theorem DR.of {s s' : Rs} {d d' : Ds} (h : DR s d) (hr : ∀ i, i < 16 → d'.regs i = s'.regs i) (e1 : s'.st = s.st) (e2 : s'.nm = s.nm) (e3 : d'.own = d.own) (e4 : d'.held = d.held) (e5 : d'.rd = s'.rd) : DR s' d' := by
  refine ⟨hr, ?_, ?_, e5, ?_⟩
  · rw [e3]; exact ⟨h.ow.rg, h.ow.nd, by rw [e1, e2]; exact h.ow.eq⟩
  · rw [e4]; exact ⟨h.hd.rg, h.hd.nd, by rw [e1, e2]; exact h.hd.eq⟩
  · rw [e1]; exact h.st
theorem sv_same {s : Rs} {d : Ds} (h : ∀ i, i < 16 → d.regs i = s.regs i) {r : Bool} {n : Int} (ho : opk r n = true) : d.sv r n = s.sv r n := by
  unfold Ds.sv Rs.sv
  unfold opk rg at ho
  cases r
  · rfl
  · simp only [Bool.not_true, Bool.false_or, Bool.and_eq_true, decide_eq_true_eq] at ho
    rw [if_pos (by simp; omega), if_pos rfl]
    exact h _ (by omega)
theorem DR.inc {s : Rs} {d : Ds} (h : DR s d) : DR s.inc d.tick.inc := h.of h.rg rfl rfl rfl rfl h.rd
theorem DR.tk {s : Rs} {d : Ds} (h : DR s d) : DR s d.tick := h.of h.rg rfl rfl rfl rfl h.rd
theorem DR.reg {s : Rs} {d : Ds} (h : DR s d) (r : Nat) (v : Int) : DR (s.setReg r v) (d.setReg r v) := h.of (fun i hi => by show (if i = r then v else d.regs i) = if i = r then v else s.regs i; rw [h.rg i hi]) rfl rfl rfl rfl h.rd
theorem ds_rdo (d : Ds) (os : List Int) (gs : List (Bool × Int)) (x : Nat) : (d.rdo os gs x).pl = d.pl ∧ (d.rdo os gs x).oc = d.oc ∧ (d.rdo os gs x).rs = d.rs ∧ (d.rdo os gs x).cnt = d.cnt := by
  unfold Ds.rdo
  split <;> exact ⟨rfl, rfl, rfl, rfl⟩
theorem ds_wro (d : Ds) (os : List Int) (x : Nat) : (d.wro os x).pl = d.pl ∧ (d.wro os x).oc = d.oc ∧ (d.wro os x).rs = d.rs ∧ (d.wro os x).cnt = d.cnt := by
  unfold Ds.wro
  split <;> exact ⟨rfl, rfl, rfl, rfl⟩
theorem rs_rdo (s : Rs) (os : List Int) (gs : List (Bool × Int)) (x : Nat) : (s.rdo os gs x).pl = s.pl ∧ (s.rdo os gs x).oc = s.oc ∧ (s.rdo os gs x).rs = s.rs := by
  unfold Rs.rdo
  split <;> exact ⟨rfl, rfl, rfl⟩
theorem rs_wro (s : Rs) (os : List Int) (x : Nat) : (s.wro os x).pl = s.pl ∧ (s.wro os x).oc = s.oc ∧ (s.wro os x).rs = s.rs := by
  unfold Rs.wro
  split <;> exact ⟨rfl, rfl, rfl⟩
theorem DQ.tchO {s : Rs} {d : Ds} (h : DQ s d) (hz : s.oc = 0) {os : List Int} {gs : List (Bool × Int)} {q : Ins} {n : Int} (hcan : q.can n = true) (hc4 : q.code ≤ 4) {x : Nat} (hx : x < 16) : DQ (mstpO os gs q s x) (d.tick.tchO os gs q x) := by
  have hi := h.r.inc
  have e1 : d.tick.inc.pl = s.inc.pl := by show d.pl + 1 = s.pl + 1; rw [h.p hz]
  have e2 : d.tick.inc.oc = s.inc.oc := h.c
  have e3 : d.tick.inc.rs = s.inc.rs := h.u
  have e4 : s.inc.rs = 0 := h.z hz
  unfold mstpO Ds.tchO
  have hc := can_code hcan
  rcases (by omega : q.code = 1 ∨ q.code = 2 ∨ q.code = 3 ∨ q.code = 4) with c | c | c | c
  · rw [if_pos c, if_pos c, hi.rdv os gs hx]
    obtain ⟨a1, a2, a3, -⟩ := ds_rdo d.tick.inc os gs x
    obtain ⟨b1, b2, b3⟩ := rs_rdo s.inc os gs x
    exact ⟨(hi.rdo os gs hx).reg _ _, a2.trans (e2.trans b2.symm), a3.trans (e3.trans b3.symm), fun _ => a1.trans (e1.trans b1.symm), fun _ => b3.trans e4⟩
  · rw [if_neg (show ¬ q.code = 1 by omega), if_pos c, if_neg (show ¬ q.code = 1 by omega), if_pos c, hi.wrv os hx]
    obtain ⟨a1, a2, a3, -⟩ := ds_wro d.tick.inc os x
    obtain ⟨b1, b2, b3⟩ := rs_wro s.inc os x
    exact ⟨(hi.wro os hx).reg _ _, a2.trans (e2.trans b2.symm), a3.trans (e3.trans b3.symm), fun _ => a1.trans (e1.trans b1.symm), fun _ => b3.trans e4⟩
  · rw [if_neg (show ¬ q.code = 1 by omega), if_neg (show ¬ q.code = 2 by omega), if_pos c, if_neg (show ¬ q.code = 1 by omega), if_neg (show ¬ q.code = 2 by omega), if_pos c]
    obtain ⟨i, ei⟩ := fix_wro (d := d.tick.inc) (os := os) (x := x)
    rw [ei]
    obtain ⟨a1, a2, a3, -⟩ := ds_wro d.tick.inc os x
    obtain ⟨b1, b2, b3⟩ := rs_wro s.inc os x
    have hw := hi.wro os hx
    have es := sv_same hw.rg (can_x hcan (by unfold kdX; rw [c]; rfl))
    simp only
    rw [es]
    exact ⟨hw.put hx ei _, a2.trans (e2.trans b2.symm), a3.trans (e3.trans b3.symm), fun _ => a1.trans (e1.trans b1.symm), fun _ => b3.trans e4⟩
  · rw [if_neg (show ¬ q.code = 1 by omega), if_neg (show ¬ q.code = 2 by omega), if_neg (show ¬ q.code = 3 by omega), if_neg (show ¬ q.code = 1 by omega), if_neg (show ¬ q.code = 2 by omega), if_neg (show ¬ q.code = 3 by omega)]
    have hd := hi.drop hx
    refine ⟨hd, ?_, ?_, fun _ => ?_, fun _ => ?_⟩
    · split <;> exact e2
    · split <;> exact e3
    · split <;> exact e1
    · split <;> exact e4
theorem DQ.ins {s : Rs} {d : Ds} (h : DQ s d) (hz : s.oc = 0) {os : List Int} {gs : List (Bool × Int)} (h16 : os.length ≤ 16) {q : Ins} {n : Int} (hcan : q.can n = true) : DQ (mstp os gs q s) (d.tick.ins os gs q) := by
  have hi := h.r.inc
  have e1 : d.tick.inc.pl = s.inc.pl := by show d.pl + 1 = s.pl + 1; rw [h.p hz]
  have e4 : s.inc.rs = 0 := h.z hz
  have hc := can_code hcan
  unfold mstp Ds.ins
  by_cases c4 : q.code ≤ 4
  · rw [if_pos c4, if_pos c4]
    unfold Ds.tch
    have es : d.tick.sv q.oR q.oN = s.sv q.oR q.oN := sv_same h.r.rg (can_obj hcan (by unfold kdO; rcases (by omega : q.code = 1 ∨ q.code = 2 ∨ q.code = 3 ∨ q.code = 4) with c | c | c | c <;> rw [c] <;> rfl))
    rw [es]
    by_cases hx : 0 ≤ s.sv q.oR q.oN ∧ s.sv q.oR q.oN < os.length
    · rw [if_pos hx, if_pos hx]
      exact h.tchO hz hcan c4 (by omega)
    · rw [if_neg hx, if_neg hx]
      exact ⟨h.r.of h.r.rg rfl rfl rfl rfl h.r.rd, rfl, h.u, fun e => by have e : (3 : Int) = 0 := e; omega, fun e => by have e : (3 : Int) = 0 := e; omega⟩
  · rw [if_neg c4, if_neg c4]
    have ex : kdX q.code = true → d.tick.sv q.xR q.xN = s.inc.sv q.xR q.xN := fun k => sv_same h.r.rg (can_x hcan k)
    have ey : kdY q.code = true → d.tick.sv q.yR q.yN = s.inc.sv q.yR q.yN := fun k => sv_same h.r.rg (can_y hcan k)
    rcases (by omega : q.code = 5 ∨ q.code = 6 ∨ q.code = 7 ∨ q.code = 8 ∨ q.code = 9 ∨ q.code = 10) with c | c | c | c | c | c
    · rw [if_pos c, if_pos c, ex (by rw [c]; rfl)]
      exact ⟨(h.r.inc.reg _ _).of (h.r.inc.reg _ _).rg rfl rfl rfl rfl h.r.rd, h.c, h.u, fun _ => e1, fun _ => e4⟩
    · rw [if_neg (show ¬ q.code = 5 by omega), if_pos c, if_neg (show ¬ q.code = 5 by omega), if_pos c, ex (by rw [c]; rfl), ey (by rw [c]; rfl)]
      exact ⟨(h.r.inc.reg _ _).of (h.r.inc.reg _ _).rg rfl rfl rfl rfl h.r.rd, h.c, h.u, fun _ => e1, fun _ => e4⟩
    · rw [if_neg (show ¬ q.code = 5 by omega), if_neg (show ¬ q.code = 6 by omega), if_pos c, if_neg (show ¬ q.code = 5 by omega), if_neg (show ¬ q.code = 6 by omega), if_pos c, ex (by rw [c]; rfl), ey (by rw [c]; rfl)]
      split
      · exact ⟨h.r.of h.r.rg rfl rfl rfl rfl h.r.rd, h.c, h.u, fun _ => rfl, fun _ => e4⟩
      · exact ⟨hi, h.c, h.u, fun _ => e1, fun _ => e4⟩
    · rw [if_neg (show ¬ q.code = 5 by omega), if_neg (show ¬ q.code = 6 by omega), if_neg (show ¬ q.code = 7 by omega), if_pos c, if_neg (show ¬ q.code = 5 by omega), if_neg (show ¬ q.code = 6 by omega), if_neg (show ¬ q.code = 7 by omega), if_pos c]
      exact ⟨h.r.of h.r.rg rfl rfl rfl rfl h.r.rd, h.c, h.u, fun _ => rfl, fun _ => e4⟩
    · rw [if_neg (show ¬ q.code = 5 by omega), if_neg (show ¬ q.code = 6 by omega), if_neg (show ¬ q.code = 7 by omega), if_neg (show ¬ q.code = 8 by omega), if_pos c, if_neg (show ¬ q.code = 5 by omega), if_neg (show ¬ q.code = 6 by omega), if_neg (show ¬ q.code = 7 by omega), if_neg (show ¬ q.code = 8 by omega), if_pos c]
      exact ⟨h.r.of h.r.rg rfl rfl rfl rfl h.r.rd, rfl, h.u, fun e => by have e : (2 : Int) = 0 := e; omega, fun e => by have e : (2 : Int) = 0 := e; omega⟩
    · rw [if_neg (show ¬ q.code = 5 by omega), if_neg (show ¬ q.code = 6 by omega), if_neg (show ¬ q.code = 7 by omega), if_neg (show ¬ q.code = 8 by omega), if_neg (show ¬ q.code = 9 by omega), if_neg (show ¬ q.code = 5 by omega), if_neg (show ¬ q.code = 6 by omega), if_neg (show ¬ q.code = 7 by omega), if_neg (show ¬ q.code = 8 by omega), if_neg (show ¬ q.code = 9 by omega), ex (by rw [c]; rfl)]
      exact ⟨h.r.of h.r.rg rfl rfl rfl rfl h.r.rd, rfl, rfl, fun e => by have e : (1 : Int) = 0 := e; omega, fun e => by have e : (1 : Int) = 0 := e; omega⟩
theorem DQ.stp {s : Rs} {d : Ds} (h : DQ s d) (hz : s.oc = 0) {l : List Ins} {os : List Int} {gs : List (Bool × Int)} (h16 : os.length ≤ 16) (hcan : ∀ p, p < l.length → (l.getD p ins0).can l.length = true) (hp : 0 ≤ s.pl ∧ s.pl ≤ l.length) : DQ (mstp os gs (atI l s.pl.toNat) s) (d.stp l os gs) := by
  unfold Ds.stp
  have ep := h.p hz
  by_cases e : (l.length : Int) ≤ d.pl
  · rw [if_pos e]
    have e2 : s.pl.toNat = l.length := by omega
    have ea : atI l s.pl.toNat = doneI := by unfold atI; rw [if_pos e2]
    rw [ea]
    have : mstp os gs doneI s = { s.inc with oc := 1, rs := 0 } := rfl
    rw [this]
    exact ⟨h.r.of h.r.rg rfl rfl rfl rfl h.r.rd, rfl, h.u.trans (h.z hz), fun e => by have e : (1 : Int) = 0 := e; omega, fun e => by have e : (1 : Int) = 0 := e; omega⟩
  · rw [if_neg e]
    have e2 : ¬ s.pl.toNat = l.length := by omega
    have ea : atI l s.pl.toNat = l.getD d.pl.toNat ins0 := by unfold atI; rw [if_neg e2, ep]
    rw [ea]
    exact h.ins hz h16 (hcan _ (by omega))
structure R64 (s : Rs) : Prop where
  r : ∀ i, i < 16 → In64 (s.regs i)
  n : ∀ x, x < 16 → In64 (s.nm x)
theorem ap_in (op a b : Int) (ha : In64 a) (hb : In64 b) : In64 (ap op a b) := by
  have z : In64 0 := by unfold In64; omega
  by_cases h : 1 ≤ op ∧ op ≤ 12
  · rcases (by omega : op = 1 ∨ op = 2 ∨ op = 3 ∨ op = 4 ∨ op = 5 ∨ op = 6 ∨ op = 7 ∨ op = 8 ∨ op = 9 ∨ op = 10 ∨ op = 11 ∨ op = 12) with h | h | h | h | h | h | h | h | h | h | h | h <;> subst h
    · rw [ap1]; exact wrap_in _
    · rw [ap2]; exact wrap_in _
    · rw [ap3]; exact wrap_in _
    · rw [ap4]; split
      · exact z
      · exact wrap_in _
    · exact rem_in a b ha
    · exact in_and _ _
    · exact in_or _ _
    · exact in_xor _ _
    · rw [ap9]; exact wrap_in _
    · exact ap10_in _ _ ha
    · rw [ap11]; split <;> assumption
    · rw [ap12]; split <;> assumption
  · rw [ap_bad _ _ _ (by omega)]; exact z
theorem R64.sv {s : Rs} (h : R64 s) {r : Bool} {n : Int} (ho : opk r n = true) (hn : In64 n) : In64 (s.sv r n) := by
  unfold Rs.sv
  unfold opk rg at ho
  cases r
  · exact hn
  · simp only [Bool.not_true, Bool.false_or, Bool.and_eq_true, decide_eq_true_eq] at ho
    rw [if_pos rfl]
    exact h.r _ (by omega)
theorem R64.reg {s : Rs} (h : R64 s) (r : Nat) {v : Int} (hv : In64 v) : R64 (s.setReg r v) := ⟨fun i hi => by show In64 (if i = r then v else s.regs i); split; exact hv; exact h.r i hi, h.n⟩
theorem R64.inc {s : Rs} (h : R64 s) : R64 s.inc := ⟨h.r, h.n⟩
theorem R64.rdo {s : Rs} (h : R64 s) {os : List Int} {gs : List (Bool × Int)} (hos : ∀ i, In64 (os.getD i 0)) (hgs : ∀ i, In64 (gs.getD i (false, 0)).2) (x : Nat) : R64 (s.rdo os gs x) := by
  unfold Rs.rdo
  split
  · refine ⟨h.r, fun y hy => ?_⟩
    show In64 (if y = x then seenV os gs s.rd x else s.nm y)
    split
    · unfold seenV; split
      · exact hgs _
      · exact hos _
    · exact h.n y hy
  · exact h
theorem R64.wro {s : Rs} (h : R64 s) {os : List Int} (hos : ∀ i, In64 (os.getD i 0)) (x : Nat) : R64 (s.wro os x) := by
  unfold Rs.wro
  split
  · exact h
  · refine ⟨h.r, fun y hy => ?_⟩
    show In64 (if y = x then os.getD x 0 else s.nm y)
    split
    · exact hos _
    · exact h.n y hy
theorem R64.stp {s : Rs} (h : R64 s) {os : List Int} {gs : List (Bool × Int)} (h16 : os.length ≤ 16) (hos : ∀ i, In64 (os.getD i 0)) (hgs : ∀ i, In64 (gs.getD i (false, 0)).2) {q : Ins} {n : Int} (hcan : q.can n = true) (hq : In64 q.xN ∧ In64 q.yN) : R64 (mstp os gs q s) := by
  have z : In64 0 := by unfold In64; omega
  have hc := can_code hcan
  unfold mstp
  by_cases c4 : q.code ≤ 4
  · rw [if_pos c4]
    by_cases hx : 0 ≤ s.sv q.oR q.oN ∧ s.sv q.oR q.oN < os.length
    · rw [if_pos hx]
      obtain ⟨x, ex⟩ : ∃ x : Nat, (s.sv q.oR q.oN).toNat = x := ⟨_, rfl⟩
      have hx16 : x < 16 := by omega
      rw [ex]
      unfold mstpO
      rcases (by omega : q.code = 1 ∨ q.code = 2 ∨ q.code = 3 ∨ q.code = 4) with c | c | c | c
      · rw [if_pos c]
        have h1 := h.inc.rdo hos hgs x
        exact h1.reg _ (h1.n x hx16)
      · rw [if_neg (by omega), if_pos c]
        have h1 := h.inc.wro hos x
        exact h1.reg _ (h1.n x hx16)
      · rw [if_neg (by omega), if_neg (by omega), if_pos c]
        have h1 := h.inc.wro hos x
        refine ⟨h1.r, fun y hy => ?_⟩
        show In64 (if y = x then _ else _)
        split
        · exact h1.sv (can_x hcan (by unfold kdX; rw [c]; rfl)) hq.1
        · exact h1.n y hy
      · rw [if_neg (by omega), if_neg (by omega), if_neg (by omega)]
        split
        · refine ⟨h.r, fun y hy => ?_⟩
          show In64 (if y = x then 0 else s.nm y)
          split
          · exact z
          · exact h.n y hy
        · exact h.inc
    · rw [if_neg hx]; exact ⟨h.r, h.n⟩
  · rw [if_neg c4]
    rcases (by omega : q.code = 5 ∨ q.code = 6 ∨ q.code = 7 ∨ q.code = 8 ∨ q.code = 9 ∨ q.code = 10) with c | c | c | c | c | c
    · rw [if_pos c]
      exact h.inc.reg _ (h.inc.sv (can_x hcan (by unfold kdX; rw [c]; rfl)) hq.1)
    · rw [if_neg (by omega), if_pos c]
      exact h.inc.reg _ (ap_in _ _ _ (h.inc.sv (can_x hcan (by unfold kdX; rw [c]; rfl)) hq.1) (h.inc.sv (can_y hcan (by unfold kdY; rw [c]; rfl)) hq.2))
    · rw [if_neg (by omega), if_neg (by omega), if_pos c]
      split
      · exact ⟨h.r, h.n⟩
      · exact h.inc
    · rw [if_neg (by omega), if_neg (by omega), if_neg (by omega), if_pos c]; exact ⟨h.r, h.n⟩
    · rw [if_neg (by omega), if_neg (by omega), if_neg (by omega), if_neg (by omega), if_pos c]; exact ⟨h.r, h.n⟩
    · rw [if_neg (by omega), if_neg (by omega), if_neg (by omega), if_neg (by omega), if_neg (by omega)]; exact ⟨h.r, h.n⟩
theorem in64_zero : In64 0 := by unfold In64; omega
theorem R64.start : R64 rs0 := ⟨fun _ _ => in64_zero, fun _ _ => in64_zero⟩
def ds0 : Ds := ⟨fun _ => 0, [], [], 0, 0, 0, 0, 0⟩
theorem DQ.start : DQ rs0 ds0 := by
  refine ⟨⟨fun _ _ => rfl, ⟨fun p hp => absurd hp (by simp [ds0]), List.nodup_nil, fun x hx n => ?_⟩, ⟨fun p hp => absurd hp (by simp [ds0]), List.nodup_nil, fun x hx n => ?_⟩, rfl, fun x hx => .inl rfl⟩, rfl, rfl, fun _ => rfl, fun _ => rfl⟩
  · constructor
    · intro h; exact absurd h (by simp [ds0])
    · rintro ⟨e, _⟩; have e : (0 : Int) = 2 := e; omega
  · constructor
    · intro h; exact absurd h (by simp [ds0])
    · rintro ⟨e, _⟩; have e : (0 : Int) = 1 := e; omega
theorem nd_len : ∀ (n : Nat) (l : List Nat), l.Nodup → (∀ x ∈ l, x < n) → l.length ≤ n
  | 0, l, _, h => by
    cases l with
    | nil => exact Nat.le_refl _
    | cons a l => exact absurd (h a (by simp)) (by omega)
  | n + 1, l, hd, h => by
    by_cases hm : n ∈ l
    · have h1 := nd_len n (l.erase n) (hd.erase n) (fun x hx => by
        have h2 := (hd.mem_erase_iff).1 hx
        have := h x h2.2
        have := h2.1
        omega)
      rw [List.length_erase_of_mem hm] at h1
      omega
    · have h1 := nd_len n l hd (fun x hx => by
        have := h x hx
        have : x ≠ n := fun e => hm (e ▸ hx)
        omega)
      omega
theorem PL2.len {s : Rs} {k : Int} {l : List Pr} (h : PL2 s k l) : l.length ≤ 16 := by
  have : (l.map (·.1.toNat)).Nodup := by
    have h2 := h.nd
    rw [List.nodup_iff_pairwise_ne, List.pairwise_map] at h2 ⊢
    refine h2.imp_of_mem (fun {a b} ha hb hne e => hne ?_)
    have := h.rg a ha
    have := h.rg b hb
    have e : a.1.toNat = b.1.toNat := e
    show a.1 = b.1
    omega
  have hs : ∀ x ∈ l.map (·.1.toNat), x ∈ List.range 16 := fun x hx => by
    obtain ⟨p, hp, rfl⟩ := List.mem_map.1 hx
    have := h.rg p hp
    rw [List.mem_range]; omega
  have := nd_len 16 _ this (fun x hx => List.mem_range.1 (hs x hx))
  simpa using this
end Go.Proofs.YthchbcfecconbaaGreatDoor

