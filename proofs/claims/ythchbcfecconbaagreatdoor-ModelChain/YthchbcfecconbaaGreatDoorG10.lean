import Derived.Test.YthchbcfecconbaaGreatDoorG08
import Derived.Test.YthchbcfecconbaaGreatDoorG09
import Derived.Laws.OwnMore
import Derived.Test.YthchbcfecconbaaGreatDoorG05
import Derived.Lib.Mul64
import Derived.Laws.Bits64b
import Derived.Test.YthchbcfecconbaaGreatDoorRows
import Derived.OpenShut
import Derived.WalkLawsBesides
namespace Go.Proofs.YthchbcfecconbaaGreatDoor
open Go.RowKit
def Ds.setReg (d : Ds) (r : Nat) (v : Int) : Ds := { d with regs := fun k => if k = r then v else d.regs k }
def Ds.inc (d : Ds) : Ds := { d with pl := d.pl + 1 }
def Ds.tchO (d : Ds) (os : List Int) (gs : List (Bool × Int)) (q : Ins) (x : Nat) : Ds :=
  if q.code = 1 then (d.inc.rdo os gs x).setReg q.dst.toNat (d.inc.rdv os gs x)
  else if q.code = 2 then (d.inc.wro os x).setReg q.dst.toNat (d.inc.wrv os x)
  else if q.code = 3 then (match fix (d.inc.wro os x).own x with | some i => { d.inc.wro os x with own := Go.Proofs.YthchbcfecconbaaGreatDoor.setP (d.inc.wro os x).own i ((d.inc.wro os x).sv q.xR q.xN) } | none => d.inc.wro os x)
  else { d.inc with held := wout d.held x }
def Ds.tch (d : Ds) (os : List Int) (gs : List (Bool × Int)) (q : Ins) : Ds := if 0 ≤ d.sv q.oR q.oN ∧ d.sv q.oR q.oN < os.length then d.tchO os gs q (d.sv q.oR q.oN).toNat else { d with oc := 3 }
theorem ins_box (w : World) (q : Ins) : ∃ w0, w0 = w.alloc (.cells q.cells.toArray 62) ∧ Keeps (fun _ => False) w w0 ∧ CL w0 w.heap.size q.cells ∧ w0.heap.size = w.heap.size + 1 := ⟨_, rfl, (Keeps.refl _ w).alloc _, CL.made w _ _, by simp⟩
theorem DM.reg {w : World} {B : Nat} {d : Ds} {vo vh : Value} (h : DM w B d vo vh) {r : Nat} (hr : r < 16) (v : Int) : DM (w.setCell ⟨B, r, none⟩ (.int .i64 v)) B (d.setReg r v) vo vh := h.setR hr v
set_option maxHeartbeats 1000000 in
set_option maxRecDepth 100000 in
theorem touch_bad {w : World} {B : Nat} {d : Ds} {vo vh : Value} (h : DM w B d vo vh) {a ag : Option Addr} {cap cg : Nat} {os : List Int} {gs : List (Bool × Int)} (hO : NUM w a os) (hOB : ∀ b off, a = some ⟨b, off, none⟩ → b < B) (hG : GVN w ag gs) (hGB : ∀ b off, ag = some ⟨b, off, none⟩ → b < B) (q : Ins) (hn : os.length ≤ 16 ∧ gs.length ≤ 4096 ∧ d.own.length ≤ 100000 ∧ d.held.length ≤ 100000 ∧ d.rd ≤ 100000) (hp : 0 ≤ d.pl ∧ d.pl ≤ 100000) (hx : ¬ (0 ≤ d.sv q.oR q.oN ∧ d.sv q.oR q.oN < os.length)) : Calls Tryz.prog 38 #[.pointer (some ⟨B, 0, none⟩), .agg q.cells.toArray, .slice a os.length cap, .slice ag gs.length cg] w fun e w' => ∃ vo' vh', e = .returned (.tuple #[]) ∧ DM w' B ({ d with oc := 3 }) vo' vh' ∧ Keeps (DKs B vo vh) w w' := by
  obtain ⟨w0, e0, k0, hb, hz0⟩ := ins_box w q
  have h0 := h.new k0
  have hO0 : NUM w0 a os := fun i x e => by obtain ⟨b, off, e1, e2⟩ := hO i x e; exact ⟨b, off, e1, k0.cell e2 (fun e => e)⟩
  have hG0 : GVN w0 ag gs := fun i x e => by obtain ⟨b, off, e1, e2, e3⟩ := hG i x e; exact ⟨b, off, e1, k0.cell e2 (fun e => e), k0.cell e3 (fun e => e)⟩
  have c0 := hb.c 0 _ rfl
  have c1 := hb.c 1 _ rfl
  have c2 := hb.c 2 _ rfl
  have c3 := hb.c 3 _ rfl
  have c4 := hb.c 4 _ rfl
  have c5 := hb.c 5 _ rfl
  have hnd : ¬ DKs B vo vh w.heap.size := h.dn (Nat.le_refl _)
  have hob := dobject_any h0 q.oR q.oN a os.length cap
  rw [if_neg hx, decide_eq_false hx] at hob
  have _u := And.intro hOB (And.intro hGB (And.intro hn hp))
  clear hO0 hG0 hn hx c4 c5 hb h _u
  have HH : Hid (DM w0 B d vo vh) := h0
  have HK : Hid (Keeps (fun _ => False) w w0) := k0
  clear h0 k0 hO hG hOB hGB
  generalize os.length = N3 at *
  generalize gs.length = N4 at *
  go_enter Tryz.func38, Tryz.ntmps38
  refine wp_seq_k (fun KK hKK => ?_)
  have hKH : Hid _ := hKK
  clear hKK
  go_wp2_with fail
  refine hKH.out _ _ ?_
  clear hKH KK
  rw [← e0]
  clear e0
  go_wp2_with (first | (go_at_call 60; refine hob.mono ?_; clear hob; rintro e w1 ⟨rfl, k1⟩; have HT : Hid (_ ∧ _) := (HH.out.new k1).tk (o := 21) (by omega)) | (refine wpList_st_int rfl rfl _ _ _ rfl (by decide) B 21 rfl _ rfl HT.out ?_; intro w2 e2; have HE : Hid (_ = _) := e2; clear e2))
  exact bodyPost_ret (v := .tuple #[]) (results_none rfl _ _ _) rfl ⟨vo, vh, rfl, by rw [HE.out]; exact (HH.out.new k1).setC 3, by rw [HE.out]; exact ((HK.out.trans k1).mono (fun _ _ e => e.elim)).setCell (p := ⟨B, 21, none⟩) (fun _ => .inl rfl) _⟩
set_option maxHeartbeats 1000000 in
set_option maxRecDepth 100000 in
theorem touch_1 {w : World} {B : Nat} {d : Ds} {vo vh : Value} (h : DM w B d vo vh) {a ag : Option Addr} {cap cg : Nat} {os : List Int} {gs : List (Bool × Int)} (hO : NUM w a os) (hOB : ∀ b off, a = some ⟨b, off, none⟩ → b < B) (hG : GVN w ag gs) (hGB : ∀ b off, ag = some ⟨b, off, none⟩ → b < B) (q : Ins) (hn : os.length ≤ 16 ∧ gs.length ≤ 4096 ∧ d.own.length ≤ 100000 ∧ d.held.length ≤ 100000 ∧ d.rd ≤ 100000) (hp : 0 ≤ d.pl ∧ d.pl ≤ 100000) {x : Nat} (hx : d.sv q.oR q.oN = (x : Int)) (hxl : x < os.length) (hc : q.code = 1) {r : Nat} (hd : q.dst = (r : Int)) (hr : r < 16) : Calls Tryz.prog 38 #[.pointer (some ⟨B, 0, none⟩), .agg q.cells.toArray, .slice a os.length cap, .slice ag gs.length cg] w fun e w' => ∃ vo' vh', e = .returned (.tuple #[]) ∧ DM w' B ((d.inc.rdo os gs x).setReg q.dst.toNat (d.inc.rdv os gs x)) vo' vh' ∧ Keeps (DKs B vo vh) w w' := by
  obtain ⟨w0, e0, k0, hb, hz0⟩ := ins_box w q
  have h0 := h.new k0
  have hO0 : NUM w0 a os := fun i x e => by obtain ⟨b, off, e1, e2⟩ := hO i x e; exact ⟨b, off, e1, k0.cell e2 (fun e => e)⟩
  have hG0 : GVN w0 ag gs := fun i x e => by obtain ⟨b, off, e1, e2, e3⟩ := hG i x e; exact ⟨b, off, e1, k0.cell e2 (fun e => e), k0.cell e3 (fun e => e)⟩
  have c0 := hb.c 0 _ rfl
  have c1 := hb.c 1 _ rfl
  have c2 := hb.c 2 _ rfl
  have c3 := hb.c 3 _ rfl
  have c4 := hb.c 4 _ rfl
  have c5 := hb.c 5 _ rfl
  have hnd : ¬ DKs B vo vh w.heap.size := h.dn (Nat.le_refl _)
  have hob := dobject_any h0 q.oR q.oN a os.length cap
  rw [hx, if_pos (by omega), decide_eq_true (by omega)] at hob
  have v19 : IntKind.i64.wrap (d.pl + 1) = d.pl + 1 := by rw [IntKind.wrap_i64]; omega
  have HH : Hid (DM w0 B d vo vh) := h0
  have HK : Hid (Keeps (fun _ => False) w w0) := k0
  have HNB : Hid (¬ w.heap.size = B) := fun e => by have := h.lt; omega
  rw [hc] at c0
  rw [hd] at c1
  have r1 : (0 : Int) ≤ (r : Int) := by omega
  have r2 : (r : Int) < 16 := by omega
  have er : q.dst.toNat = r := by rw [hd]; rfl
  rw [er]
  clear h h0 k0 hb hx er hd hc
  go_enter Tryz.func38, Tryz.ntmps38
  refine wp_seq_k (fun KK hKK => ?_)
  have hKH : Hid _ := hKK
  clear hKK
  go_wp2_with fail
  refine hKH.out _ _ ?_
  clear hKH KK
  rw [← e0]
  clear e0
  go_wp2_with (first | (go_at_call 60; refine hob.mono ?_; clear hob; rintro e w1 ⟨rfl, k1⟩; have HT : Hid (_ ∧ _) := (HH.out.new k1).tk (o := 19) (by omega); have p19 := (HH.out.new k1).p) | (refine wpList_st_int rfl rfl _ _ _ rfl (by decide) B 19 rfl _ rfl HT.out ?_; intro w2 e2; have HD2 : Hid (DM w2 B d.inc vo vh) := (by show DM _ _ _ _ _; rw [e2]; exact (HH.out.new k1).setP (d.pl + 1)); have HK2 : Hid (Keeps (fun k => k = B) w1 w2) := (by show Keeps _ _ _; rw [e2]; exact (Keeps.refl (fun k => k = B) w1).setCell (p := ⟨B, 19, none⟩) (fun _ => rfl) _); replace c0 := HK2.out.cell (k1.cell c0 (fun e => e)) HNB.out; replace c1 := HK2.out.cell (k1.cell c1 (fun e => e)) HNB.out; replace c4 := HK2.out.cell (k1.cell c4 (fun e => e)) HNB.out; replace c5 := HK2.out.cell (k1.cell c5 (fun e => e)) HNB.out; have HN2 : Hid (¬ DKs B vo vh w.heap.size) := hnd; have hO2 : NUM w2 a os := (fun i y e => by obtain ⟨b, off, e1, e3⟩ := hO0 i y e; exact ⟨b, off, e1, HK2.out.cell (k1.cell e3 (fun e => e)) (by have := hOB b off e1; show ¬ b = B; omega)⟩); have hG2 : GVN w2 ag gs := (fun i y e => by obtain ⟨b, off, e1, e3, e4⟩ := hG0 i y e; exact ⟨b, off, e1, HK2.out.cell (k1.cell e3 (fun e => e)) (by have := hGB b off e1; show ¬ b = B; omega), HK2.out.cell (k1.cell e4 (fun e => e)) (by have := hGB b off e1; show ¬ b = B; omega)⟩); have HO2 : Hid (NUM w2 a os) := hO2; have HG2 : Hid (GVN w2 ag gs) := hG2; have HKA : Hid (Keeps (DKs B vo vh) w w2) := ((HK.out.trans k1).mono (fun _ _ e => e.elim)).trans (HK2.out.mono (fun _ _ e => .inl e)); clear e2 hO2 hG2))
  have c1d : w2.drew.cell? ⟨w.heap.size, 1, none⟩ = some (.int .i64 (r : Int)) := c1
  go_region_with (go_at_call 61; refine (reads_any (HD2.out.new (Keeps.refl (fun _ => False) w2).drew) (cap := cap) (cg := cg) HO2.out HG2.out hxl hn).mono ?_; rintro e w3 ⟨vh3, rfl, h3, k3⟩; have c13 := k3.cell c1d HN2.out; have cr3 := h3.r r hr; have zr3 := h3.z r (by omega); have HD3 : Hid (DM _ _ _ _ _) := h3; have HK3 : Hid (Keeps _ _ _) := k3; clear h3 k3)
  all_goals
    generalize h9 : World.setCell _ _ _ = w9
    have hF := HD3.out.reg hr (d.inc.rdv os gs x)
    have kF : Keeps (DKs B vo vh) w w9 := by rw [← h9]; exact (HKA.out.trans ((Keeps.refl (DKs B vo vh) w2).drew.trans HK3.out)).setCell (p := ⟨B, r, none⟩) (fun _ => .inl rfl) _
    rw [h9] at hF
    clear h9
    go_wp2
    go_end0
    exact ⟨_, _, rfl, hF, kF⟩
set_option maxHeartbeats 1000000 in
set_option maxRecDepth 100000 in
theorem touch_2 {w : World} {B : Nat} {d : Ds} {vo vh : Value} (h : DM w B d vo vh) {a ag : Option Addr} {cap cg : Nat} {os : List Int} {gs : List (Bool × Int)} (hO : NUM w a os) (hOB : ∀ b off, a = some ⟨b, off, none⟩ → b < B) (hG : GVN w ag gs) (hGB : ∀ b off, ag = some ⟨b, off, none⟩ → b < B) (q : Ins) (hn : os.length ≤ 16 ∧ gs.length ≤ 4096 ∧ d.own.length ≤ 100000 ∧ d.held.length ≤ 100000 ∧ d.rd ≤ 100000) (hp : 0 ≤ d.pl ∧ d.pl ≤ 100000) {x : Nat} (hx : d.sv q.oR q.oN = (x : Int)) (hxl : x < os.length) (hc : q.code = 2) {r : Nat} (hd : q.dst = (r : Int)) (hr : r < 16) : Calls Tryz.prog 38 #[.pointer (some ⟨B, 0, none⟩), .agg q.cells.toArray, .slice a os.length cap, .slice ag gs.length cg] w fun e w' => ∃ vo' vh', e = .returned (.tuple #[]) ∧ DM w' B ((d.inc.wro os x).setReg q.dst.toNat (d.inc.wrv os x)) vo' vh' ∧ Keeps (DKs B vo vh) w w' := by
  obtain ⟨w0, e0, k0, hb, hz0⟩ := ins_box w q
  have h0 := h.new k0
  have hO0 : NUM w0 a os := fun i x e => by obtain ⟨b, off, e1, e2⟩ := hO i x e; exact ⟨b, off, e1, k0.cell e2 (fun e => e)⟩
  have hG0 : GVN w0 ag gs := fun i x e => by obtain ⟨b, off, e1, e2, e3⟩ := hG i x e; exact ⟨b, off, e1, k0.cell e2 (fun e => e), k0.cell e3 (fun e => e)⟩
  have c0 := hb.c 0 _ rfl
  have c1 := hb.c 1 _ rfl
  have c2 := hb.c 2 _ rfl
  have c3 := hb.c 3 _ rfl
  have c4 := hb.c 4 _ rfl
  have c5 := hb.c 5 _ rfl
  have hnd : ¬ DKs B vo vh w.heap.size := h.dn (Nat.le_refl _)
  have hob := dobject_any h0 q.oR q.oN a os.length cap
  rw [hx, if_pos (by omega), decide_eq_true (by omega)] at hob
  have v19 : IntKind.i64.wrap (d.pl + 1) = d.pl + 1 := by rw [IntKind.wrap_i64]; omega
  have HH : Hid (DM w0 B d vo vh) := h0
  have HK : Hid (Keeps (fun _ => False) w w0) := k0
  have HNB : Hid (¬ w.heap.size = B) := fun e => by have := h.lt; omega
  rw [hc] at c0
  rw [hd] at c1
  have r1 : (0 : Int) ≤ (r : Int) := by omega
  have r2 : (r : Int) < 16 := by omega
  have er : q.dst.toNat = r := by rw [hd]; rfl
  rw [er]
  clear h h0 k0 hb hx er hd hc
  go_enter Tryz.func38, Tryz.ntmps38
  refine wp_seq_k (fun KK hKK => ?_)
  have hKH : Hid _ := hKK
  clear hKK
  go_wp2_with fail
  refine hKH.out _ _ ?_
  clear hKH KK
  rw [← e0]
  clear e0
  go_wp2_with (first | (go_at_call 60; refine hob.mono ?_; clear hob; rintro e w1 ⟨rfl, k1⟩; have HT : Hid (_ ∧ _) := (HH.out.new k1).tk (o := 19) (by omega); have p19 := (HH.out.new k1).p) | (refine wpList_st_int rfl rfl _ _ _ rfl (by decide) B 19 rfl _ rfl HT.out ?_; intro w2 e2; have HD2 : Hid (DM w2 B d.inc vo vh) := (by show DM _ _ _ _ _; rw [e2]; exact (HH.out.new k1).setP (d.pl + 1)); have HK2 : Hid (Keeps (fun k => k = B) w1 w2) := (by show Keeps _ _ _; rw [e2]; exact (Keeps.refl (fun k => k = B) w1).setCell (p := ⟨B, 19, none⟩) (fun _ => rfl) _); replace c0 := HK2.out.cell (k1.cell c0 (fun e => e)) HNB.out; replace c1 := HK2.out.cell (k1.cell c1 (fun e => e)) HNB.out; replace c4 := HK2.out.cell (k1.cell c4 (fun e => e)) HNB.out; replace c5 := HK2.out.cell (k1.cell c5 (fun e => e)) HNB.out; have HN2 : Hid (¬ DKs B vo vh w.heap.size) := hnd; have hO2 : NUM w2 a os := (fun i y e => by obtain ⟨b, off, e1, e3⟩ := hO0 i y e; exact ⟨b, off, e1, HK2.out.cell (k1.cell e3 (fun e => e)) (by have := hOB b off e1; show ¬ b = B; omega)⟩); have hG2 : GVN w2 ag gs := (fun i y e => by obtain ⟨b, off, e1, e3, e4⟩ := hG0 i y e; exact ⟨b, off, e1, HK2.out.cell (k1.cell e3 (fun e => e)) (by have := hGB b off e1; show ¬ b = B; omega), HK2.out.cell (k1.cell e4 (fun e => e)) (by have := hGB b off e1; show ¬ b = B; omega)⟩); have HO2 : Hid (NUM w2 a os) := hO2; have HG2 : Hid (GVN w2 ag gs) := hG2; have HKA : Hid (Keeps (DKs B vo vh) w w2) := ((HK.out.trans k1).mono (fun _ _ e => e.elim)).trans (HK2.out.mono (fun _ _ e => .inl e)); clear e2 hO2 hG2))
  have c1d : w2.drew.cell? ⟨w.heap.size, 1, none⟩ = some (.int .i64 (r : Int)) := c1
  go_region_with (go_at_call 62; refine (writes_any (HD2.out.new (Keeps.refl (fun _ => False) w2).drew) (cap := cap) HO2.out hOB hxl ⟨hn.1, hn.2.2.1, hn.2.2.2.1⟩).mono ?_; rintro e w3 ⟨vo3, vh3, rfl, h3, k3⟩; have c13 := k3.cell c1d HN2.out; have cr3 := h3.r r hr; have zr3 := h3.z r (by omega); have HD3 : Hid (DM _ _ _ _ _) := h3; have HK3 : Hid (Keeps _ _ _) := k3; clear h3 k3)
  all_goals
    generalize h9 : World.setCell _ _ _ = w9
    have hF := HD3.out.reg hr (d.inc.wrv os x)
    have kF : Keeps (DKs B vo vh) w w9 := by rw [← h9]; exact (HKA.out.trans ((Keeps.refl (DKs B vo vh) w2).drew.trans HK3.out)).setCell (p := ⟨B, r, none⟩) (fun _ => .inl rfl) _
    rw [h9] at hF
    clear h9
    go_wp2
    go_end0
    exact ⟨_, _, rfl, hF, kF⟩
theorem DM.dge {w : World} {B : Nat} {d : Ds} {vo vh : Value} (h : DM w B d vo vh) {k : Nat} (e : DKs B vo vh k) : B ≤ k := Classical.byContradiction (fun hk => h.dk (by omega) e)
theorem pclD_set : ∀ (l : List Pr) (i : Nat) (n : Int), i < l.length → pclD (Go.Proofs.YthchbcfecconbaaGreatDoor.setP l i n) = (pclD l).set (i * 2 + 1) (.int .i64 n)
  | [], _, _, h => by simp at h
  | p :: l, 0, n, _ => rfl
  | p :: l, i + 1, n, h => by
    have ih := pclD_set l i n (by simpa using h)
    show _ :: _ :: pclD (l.set i ((l.getD i (0, 0)).1, n)) = _
    have ih : pclD (l.set i ((l.getD i (0, 0)).1, n)) = (pclD l).set (i * 2 + 1) (.int .i64 n) := ih
    rw [ih, show (i + 1) * 2 + 1 = i * 2 + 1 + 1 + 1 by omega]
    rfl
theorem setP_len (l : List Pr) (i : Nat) (n : Int) : (Go.Proofs.YthchbcfecconbaaGreatDoor.setP l i n).length = l.length := by unfold Go.Proofs.YthchbcfecconbaaGreatDoor.setP; rw [List.length_set]
theorem DM.putN {w : World} {B : Nat} {d : Ds} {vh : Value} {g cap : Nat} (h : DM w B d (.slice (some ⟨g, 0, none⟩) d.own.length cap) vh) {i : Nat} (hi : i < d.own.length) (n : Int) : DM (w.setCell ⟨g, i * 2 + 1, none⟩ (.int .i64 n)) B { d with own := Go.Proofs.YthchbcfecconbaaGreatDoor.setP d.own i n } (.slice (some ⟨g, 0, none⟩) d.own.length cap) vh := by
  have hg : (Value.slice (some ⟨g, 0, none⟩) d.own.length cap).ownBlock = some g := rfl
  have ke : Keeps (fun k => k = g) w (w.setCell ⟨g, i * 2 + 1, none⟩ (.int .i64 n)) := (Keeps.refl (fun k => k = g) w).setCell (p := ⟨g, i * 2 + 1, none⟩) (fun _ => rfl) _
  have nB : ¬ B = g := fun e => h.bo hg e.symm
  refine ⟨fun j hj => ke.cell (h.r j hj) nB, ke.cell h.o nB, ke.cell h.h nB, ke.cell h.q nB, ke.cell h.p nB, ke.cell h.k nB, ke.cell h.c nB, ke.cell h.u nB, fun j hj => by simp only [World.frozen?_setCell]; exact h.z j hj, ?_, ke.owns h.hh (fun k e e2 => h.nb k (by rw [hg, e2]) e), h.nb⟩
  have := h.oo.stored (i * 2 + 1) (.int .i64 n)
  rw [← pclD_set d.own i n hi] at this
  rw [setP_len]
  exact this.1
theorem own_form {W : World} {base n : Nat} {v : Value} {l : List Pr} (h : W.ownsRow base 108 2 v n (pclD l)) (hn : 0 < n) : ∃ g cap, v = .slice (some ⟨g, 0, none⟩) n cap ∧ PRL W (some ⟨g, 0, none⟩) l := by
  obtain ⟨a, cap, rfl, hp, _⟩ := prl_of_owns h
  rcases h.2 with ⟨e, h0⟩ | ⟨g, c, cur, e, _⟩
  · have hz : n = 0 := by first | exact h0.1 | omega
    omega
  · injection e with e1 _ _
    subst e1
    exact ⟨g, cap, rfl, hp⟩
theorem wro_len (d : Ds) (os : List Int) (x : Nat) : (d.wro os x).own.length ≤ d.own.length + 1 ∧ (d.wro os x).held.length ≤ d.held.length := by
  unfold Ds.wro
  split
  · exact ⟨Nat.le_succ _, Nat.le_refl _⟩
  · exact ⟨by simp, List.length_filter_le _ _⟩
theorem fix_wro {d : Ds} {os : List Int} {x : Nat} : ∃ i, fix (d.wro os x).own x = some i := by
  cases h : fix (d.wro os x).own x with
  | some i => exact ⟨i, rfl⟩
  | none =>
    exfalso
    have hn := fix_none h
    unfold Ds.wro at hn
    cases ho : fix d.own x with
    | some i =>
      rw [ho, if_pos (by simp)] at hn
      obtain ⟨n, hm⟩ := fix_some ho
      exact hn _ (List.mem_of_getElem? hm) rfl
    | none =>
      rw [ho, if_neg (by simp)] at hn
      exact hn ((x : Int), os.getD x 0) (by simp) rfl
set_option maxHeartbeats 1000000 in
set_option maxRecDepth 100000 in
theorem touch_4 {w : World} {B : Nat} {d : Ds} {vo vh : Value} (h : DM w B d vo vh) {a ag : Option Addr} {cap cg : Nat} {os : List Int} {gs : List (Bool × Int)} (hO : NUM w a os) (hOB : ∀ b off, a = some ⟨b, off, none⟩ → b < B) (hG : GVN w ag gs) (hGB : ∀ b off, ag = some ⟨b, off, none⟩ → b < B) (q : Ins) (hn : os.length ≤ 16 ∧ gs.length ≤ 4096 ∧ d.own.length ≤ 100000 ∧ d.held.length ≤ 100000 ∧ d.rd ≤ 100000) (hp : 0 ≤ d.pl ∧ d.pl ≤ 100000) {x : Nat} (hx : d.sv q.oR q.oN = (x : Int)) (hxl : x < os.length) (hc : q.code = 4) : Calls Tryz.prog 38 #[.pointer (some ⟨B, 0, none⟩), .agg q.cells.toArray, .slice a os.length cap, .slice ag gs.length cg] w fun e w' => ∃ vo' vh', e = .returned (.tuple #[]) ∧ DM w' B ({ d.inc with held := wout d.held x }) vo' vh' ∧ Keeps (DKs B vo vh) w w' := by
  obtain ⟨w0, e0, k0, hb, hz0⟩ := ins_box w q
  have h0 := h.new k0
  have hO0 : NUM w0 a os := fun i x e => by obtain ⟨b, off, e1, e2⟩ := hO i x e; exact ⟨b, off, e1, k0.cell e2 (fun e => e)⟩
  have hG0 : GVN w0 ag gs := fun i x e => by obtain ⟨b, off, e1, e2, e3⟩ := hG i x e; exact ⟨b, off, e1, k0.cell e2 (fun e => e), k0.cell e3 (fun e => e)⟩
  have c0 := hb.c 0 _ rfl
  have c1 := hb.c 1 _ rfl
  have c2 := hb.c 2 _ rfl
  have c3 := hb.c 3 _ rfl
  have c4 := hb.c 4 _ rfl
  have c5 := hb.c 5 _ rfl
  have hnd : ¬ DKs B vo vh w.heap.size := h.dn (Nat.le_refl _)
  have hob := dobject_any h0 q.oR q.oN a os.length cap
  rw [hx, if_pos (by omega), decide_eq_true (by omega)] at hob
  have v19 : IntKind.i64.wrap (d.pl + 1) = d.pl + 1 := by rw [IntKind.wrap_i64]; omega
  have HH : Hid (DM w0 B d vo vh) := h0
  have HK : Hid (Keeps (fun _ => False) w w0) := k0
  have HNB : Hid (¬ w.heap.size = B) := fun e => by have := h.lt; omega
  have _u := hxl
  rw [hc] at c0
  clear h h0 k0 hb hx hc
  go_enter Tryz.func38, Tryz.ntmps38
  refine wp_seq_k (fun KK hKK => ?_)
  have hKH : Hid _ := hKK
  clear hKK
  go_wp2_with fail
  refine hKH.out _ _ ?_
  clear hKH KK
  rw [← e0]
  clear e0
  go_wp2_with (first | (go_at_call 60; refine hob.mono ?_; clear hob; rintro e w1 ⟨rfl, k1⟩; have HT : Hid (_ ∧ _) := (HH.out.new k1).tk (o := 19) (by omega); have p19 := (HH.out.new k1).p) | (refine wpList_st_int rfl rfl _ _ _ rfl (by decide) B 19 rfl _ rfl HT.out ?_; intro w2 e2; have HD2 : Hid (DM w2 B d.inc vo vh) := (by show DM _ _ _ _ _; rw [e2]; exact (HH.out.new k1).setP (d.pl + 1)); have HK2 : Hid (Keeps (fun k => k = B) w1 w2) := (by show Keeps _ _ _; rw [e2]; exact (Keeps.refl (fun k => k = B) w1).setCell (p := ⟨B, 19, none⟩) (fun _ => rfl) _); replace c0 := HK2.out.cell (k1.cell c0 (fun e => e)) HNB.out; replace c1 := HK2.out.cell (k1.cell c1 (fun e => e)) HNB.out; replace c4 := HK2.out.cell (k1.cell c4 (fun e => e)) HNB.out; replace c5 := HK2.out.cell (k1.cell c5 (fun e => e)) HNB.out; have HN2 : Hid (¬ DKs B vo vh w.heap.size) := hnd; have hO2 : NUM w2 a os := (fun i y e => by obtain ⟨b, off, e1, e3⟩ := hO0 i y e; exact ⟨b, off, e1, HK2.out.cell (k1.cell e3 (fun e => e)) (by have := hOB b off e1; show ¬ b = B; omega)⟩); have hG2 : GVN w2 ag gs := (fun i y e => by obtain ⟨b, off, e1, e3, e4⟩ := hG0 i y e; exact ⟨b, off, e1, HK2.out.cell (k1.cell e3 (fun e => e)) (by have := hGB b off e1; show ¬ b = B; omega), HK2.out.cell (k1.cell e4 (fun e => e)) (by have := hGB b off e1; show ¬ b = B; omega)⟩); have HO2 : Hid (NUM w2 a os) := hO2; have HG2 : Hid (GVN w2 ag gs) := hG2; have HKA : Hid (Keeps (DKs B vo vh) w w2) := ((HK.out.trans k1).mono (fun _ _ e => e.elim)).trans (HK2.out.mono (fun _ _ e => .inl e)); clear e2 hO2 hG2; obtain ⟨ah, ch, evh, hph, hbh⟩ := prl_of_owns HD2.out.hh; subst evh; have hwo : Calls Tryz.prog 63 #[.slice ah d.held.length ch, .int .i64 (x : Int)] w2 fun e w' => ∃ a' c', e = .returned (.slice a' (wout d.held x).length c') ∧ w'.ownsRow w2.heap.size 108 2 (.slice a' (wout d.held x).length c') (wout d.held x).length (pclD (wout d.held x)) ∧ Keeps (fun _ => False) w2 w' := without_any (cap := ch) hph (by have := hn.2.2.2.1; show d.held.length ≤ _; omega) (x : Int); have co17 := HD2.out.h; replace co17 : w2.cell? ⟨B, 17, none⟩ = some (.slice ah d.held.length ch) := co17; clear hph hbh) | (go_at_call 63; refine hwo.mono ?_; clear hwo; rintro e w6 ⟨a6, c6, rfl, ho6, k6⟩; have hnb6 : ∀ g, vo.ownBlock = some g → (Value.slice a6 (wout d.held x).length c6).ownBlock ≠ some g := (fun g e e2 => by have q1 := owns_lt' HD2.out.oo g e; have q2 := owns_baseD ho6 g e2; omega); have HF6 : Hid (DM _ _ _ _ _) := HD2.out.putH (l := wout d.held x) (k6.mono (fun _ _ e => e.elim)) (owns_down ho6 HD2.out.lt) hnb6; have HT6 : Hid (_ ∧ _) := (HD2.out.new k6).tk (o := 17) (by omega); have HK6 : Hid (Keeps (DKs B vo (.slice ah d.held.length ch)) w (w6.setCell ⟨B, 17, none⟩ (.slice a6 (wout d.held x).length c6))) := (HKA.out.trans (k6.mono (fun _ _ e => e.elim))).setCell (p := ⟨B, 17, none⟩) (fun _ => .inl rfl) _; clear hnb6) | (refine wpList_st_sl rfl rfl _ _ rfl B 17 rfl _ _ _ rfl HT6.out ?_; intro w7 e7; have HE7 : Hid (_ = _) := e7; clear e7))
  go_end0
  exact ⟨_, _, rfl, by rw [HE7.out]; exact HF6.out, by rw [HE7.out]; exact HK6.out⟩
set_option maxHeartbeats 1000000 in
set_option maxRecDepth 100000 in
theorem touch_3 {w : World} {B : Nat} {d : Ds} {vo vh : Value} (h : DM w B d vo vh) {a ag : Option Addr} {cap cg : Nat} {os : List Int} {gs : List (Bool × Int)} (hO : NUM w a os) (hOB : ∀ b off, a = some ⟨b, off, none⟩ → b < B) (hG : GVN w ag gs) (hGB : ∀ b off, ag = some ⟨b, off, none⟩ → b < B) (q : Ins) (hn : os.length ≤ 16 ∧ gs.length ≤ 4096 ∧ d.own.length ≤ 100000 ∧ d.held.length ≤ 100000 ∧ d.rd ≤ 100000) (hp : 0 ≤ d.pl ∧ d.pl ≤ 100000) {x : Nat} (hx : d.sv q.oR q.oN = (x : Int)) (hxl : x < os.length) (hc : q.code = 3) {i : Nat} (hi : fix (d.inc.wro os x).own x = some i) : Calls Tryz.prog 38 #[.pointer (some ⟨B, 0, none⟩), .agg q.cells.toArray, .slice a os.length cap, .slice ag gs.length cg] w fun e w' => ∃ vo' vh', e = .returned (.tuple #[]) ∧ DM w' B ({ d.inc.wro os x with own := Go.Proofs.YthchbcfecconbaaGreatDoor.setP (d.inc.wro os x).own i ((d.inc.wro os x).sv q.xR q.xN) }) vo' vh' ∧ Keeps (fun k => B ≤ k) w w' := by
  obtain ⟨w0, e0, k0, hb, hz0⟩ := ins_box w q
  have h0 := h.new k0
  have hO0 : NUM w0 a os := fun i x e => by obtain ⟨b, off, e1, e2⟩ := hO i x e; exact ⟨b, off, e1, k0.cell e2 (fun e => e)⟩
  have hG0 : GVN w0 ag gs := fun i x e => by obtain ⟨b, off, e1, e2, e3⟩ := hG i x e; exact ⟨b, off, e1, k0.cell e2 (fun e => e), k0.cell e3 (fun e => e)⟩
  have c0 := hb.c 0 _ rfl
  have c1 := hb.c 1 _ rfl
  have c2 := hb.c 2 _ rfl
  have c3 := hb.c 3 _ rfl
  have c4 := hb.c 4 _ rfl
  have c5 := hb.c 5 _ rfl
  have hnd : ¬ DKs B vo vh w.heap.size := h.dn (Nat.le_refl _)
  have hob := dobject_any h0 q.oR q.oN a os.length cap
  rw [hx, if_pos (by omega), decide_eq_true (by omega)] at hob
  have v19 : IntKind.i64.wrap (d.pl + 1) = d.pl + 1 := by rw [IntKind.wrap_i64]; omega
  have HH : Hid (DM w0 B d vo vh) := h0
  have HK : Hid (Keeps (fun _ => False) w w0) := k0
  have HNB : Hid (¬ w.heap.size = B) := fun e => by have := h.lt; omega
  rw [hc] at c0
  clear h h0 k0 hb hx hc
  have hil := fix_lt hi
  have hwl : (d.inc.wro os x).own.length ≤ 100001 := by have := (wro_len d.inc os x).1; have h2 : d.inc.own.length = d.own.length := rfl; omega
  have HWL : Hid (_ ≤ _) := hwl
  have HIL : Hid (_ < _) := hil
  have i1 : (0 : Int) ≤ (i : Int) := by omega
  have i2 : (i : Int) < ((d.inc.wro os x).own.length : Int) := by omega
  have HI : Hid (_ = _) := hi
  clear hi hil hwl
  have i3 : decide ((0 : Int) ≤ (i : Int)) = true := decide_eq_true i1
  go_enter Tryz.func38, Tryz.ntmps38
  refine wp_seq_k (fun KK hKK => ?_)
  have hKH : Hid _ := hKK
  clear hKK
  go_wp2_with fail
  refine hKH.out _ _ ?_
  clear hKH KK
  rw [← e0]
  clear e0
  go_wp2_with (first | (go_at_call 60; refine hob.mono ?_; clear hob; rintro e w1 ⟨rfl, k1⟩; have HT : Hid (_ ∧ _) := (HH.out.new k1).tk (o := 19) (by omega); have p19 := (HH.out.new k1).p) | (refine wpList_st_int rfl rfl _ _ _ rfl (by decide) B 19 rfl _ rfl HT.out ?_; intro w2 e2; have HD2 : Hid (DM w2 B d.inc vo vh) := (by show DM _ _ _ _ _; rw [e2]; exact (HH.out.new k1).setP (d.pl + 1)); have HK2 : Hid (Keeps (fun k => k = B) w1 w2) := (by show Keeps _ _ _; rw [e2]; exact (Keeps.refl (fun k => k = B) w1).setCell (p := ⟨B, 19, none⟩) (fun _ => rfl) _); replace c0 := HK2.out.cell (k1.cell c0 (fun e => e)) HNB.out; replace c1 := HK2.out.cell (k1.cell c1 (fun e => e)) HNB.out; replace c4 := HK2.out.cell (k1.cell c4 (fun e => e)) HNB.out; replace c5 := HK2.out.cell (k1.cell c5 (fun e => e)) HNB.out; have HN2 : Hid (¬ DKs B vo vh w.heap.size) := hnd; have hO2 : NUM w2 a os := (fun i y e => by obtain ⟨b, off, e1, e3⟩ := hO0 i y e; exact ⟨b, off, e1, HK2.out.cell (k1.cell e3 (fun e => e)) (by have := hOB b off e1; show ¬ b = B; omega)⟩); have hG2 : GVN w2 ag gs := (fun i y e => by obtain ⟨b, off, e1, e3, e4⟩ := hG0 i y e; exact ⟨b, off, e1, HK2.out.cell (k1.cell e3 (fun e => e)) (by have := hGB b off e1; show ¬ b = B; omega), HK2.out.cell (k1.cell e4 (fun e => e)) (by have := hGB b off e1; show ¬ b = B; omega)⟩); have HO2 : Hid (NUM w2 a os) := hO2; have HG2 : Hid (GVN w2 ag gs) := hG2; have HKA : Hid (Keeps (DKs B vo vh) w w2) := ((HK.out.trans k1).mono (fun _ _ e => e.elim)).trans (HK2.out.mono (fun _ _ e => .inl e)); clear e2 hO2 hG2) | (go_at_call 62; refine (writes_any HD2.out (cap := cap) HO2.out hOB hxl ⟨hn.1, hn.2.2.1, hn.2.2.2.1⟩).mono ?_; rintro e w3 ⟨vo3, vh3, rfl, h3, k3⟩; have c43 := k3.cell c4 HN2.out; have c53 := k3.cell c5 HN2.out; obtain ⟨g9, co, evo, hpo⟩ := own_form h3.oo (by have := HIL.out; omega); subst evo; have hfo := find_any (cap := co) hpo (by have := HWL.out; omega) (x : Int); rw [fixV_some HI.out] at hfo; have co16 := h3.o; obtain ⟨b9, off9, e9, cp9⟩ := get_pair hpo HIL.out; injection e9 with e9; injection e9 with e91 e92 _; subst e91 e92; have HD3 : Hid (DM _ _ _ _ _) := h3; have HK3 : Hid (Keeps _ _ _) := k3; clear h3 k3 hpo) | (go_at_call 41; refine hfo.mono ?_; clear hfo; rintro e w4 ⟨rfl, ew⟩; subst w4; have hso := dsource_any HD3.out q.xR q.xN) | (go_at_call 37; refine hso.mono ?_; clear hso; rintro e w5 ⟨rfl, k5⟩; have co165 := k5.cell co16 (fun e => e); have HT5 : Hid ((w5.cell? ⟨g9, i * 2 + 1, none⟩).isSome = true ∧ w5.frozen? ⟨g9, i * 2 + 1, none⟩ = false) := And.intro (by have := k5.cell cp9 (fun e => e); rw [Nat.zero_add] at this; rw [this]; rfl) ((HD3.out.new k5).oo.frozenAt (i * 2 + 1))) | (refine wpList_st_int rfl rfl _ _ _ rfl (by decide) g9 (i * 2 + 1) rfl _ rfl HT5.out ?_; intro w7 e7; have HE7 : Hid (_ = _) := e7; clear e7))
  go_end0
  exact ⟨_, _, rfl, by rw [HE7.out]; exact (HD3.out.new k5).putN HIL.out _, by rw [HE7.out]; exact (((HKA.out.mono (fun i _ e => HD2.out.dge e)).trans (HK3.out.mono (fun i _ e => HD2.out.dge e))).trans (k5.mono (fun _ _ e => e.elim))).setCell (p := ⟨g9, i * 2 + 1, none⟩) (fun _ => by have := owns_baseD HD3.out.oo g9 rfl; show B ≤ g9; omega) _⟩
theorem touches_any {w : World} {B : Nat} {d : Ds} {vo vh : Value} (h : DM w B d vo vh) {a ag : Option Addr} {cap cg : Nat} {os : List Int} {gs : List (Bool × Int)} (hO : NUM w a os) (hOB : ∀ b off, a = some ⟨b, off, none⟩ → b < B) (hG : GVN w ag gs) (hGB : ∀ b off, ag = some ⟨b, off, none⟩ → b < B) (q : Ins) (hn : os.length ≤ 16 ∧ gs.length ≤ 4096 ∧ d.own.length ≤ 100000 ∧ d.held.length ≤ 100000 ∧ d.rd ≤ 100000) (hp : 0 ≤ d.pl ∧ d.pl ≤ 100000) (hc : 1 ≤ q.code ∧ q.code ≤ 4) (hd : q.code = 1 ∨ q.code = 2 → 0 ≤ q.dst ∧ q.dst < 16) : Calls Tryz.prog 38 #[.pointer (some ⟨B, 0, none⟩), .agg q.cells.toArray, .slice a os.length cap, .slice ag gs.length cg] w fun e w' => ∃ vo' vh', e = .returned (.tuple #[]) ∧ DM w' B (d.tch os gs q) vo' vh' ∧ Keeps (fun k => B ≤ k) w w' := by
  have dk : ∀ {w' : World}, Keeps (DKs B vo vh) w w' → Keeps (fun k => B ≤ k) w w' := fun k => k.mono (fun i _ e => h.dge e)
  unfold Ds.tch
  by_cases hx : 0 ≤ d.sv q.oR q.oN ∧ d.sv q.oR q.oN < os.length
  · rw [if_pos hx]
    obtain ⟨x, ex⟩ : ∃ x : Nat, d.sv q.oR q.oN = (x : Int) := ⟨(d.sv q.oR q.oN).toNat, by omega⟩
    have hxl : x < os.length := by omega
    rw [ex, Int.toNat_natCast]
    unfold Ds.tchO
    rcases (by omega : q.code = 1 ∨ q.code = 2 ∨ q.code = 3 ∨ q.code = 4) with c | c | c | c
    · obtain ⟨h1, h2⟩ := hd (.inl c)
      rw [if_pos c]
      exact (touch_1 h hO hOB hG hGB q hn hp ex hxl c (r := q.dst.toNat) (by omega) (by omega)).mono (fun e w' ⟨v1, v2, e1, e2, e3⟩ => ⟨v1, v2, e1, e2, dk e3⟩)
    · obtain ⟨h1, h2⟩ := hd (.inr c)
      rw [if_neg (by omega), if_pos c]
      exact (touch_2 h hO hOB hG hGB q hn hp ex hxl c (r := q.dst.toNat) (by omega) (by omega)).mono (fun e w' ⟨v1, v2, e1, e2, e3⟩ => ⟨v1, v2, e1, e2, dk e3⟩)
    · obtain ⟨i, hi⟩ := fix_wro (d := d.inc) (os := os) (x := x)
      rw [if_neg (by omega), if_neg (by omega), if_pos c, hi]
      exact touch_3 h hO hOB hG hGB q hn hp ex hxl c hi
    · rw [if_neg (by omega), if_neg (by omega), if_neg (by omega)]
      exact (touch_4 h hO hOB hG hGB q hn hp ex hxl c).mono (fun e w' ⟨v1, v2, e1, e2, e3⟩ => ⟨v1, v2, e1, e2, dk e3⟩)
  · rw [if_neg hx]
    exact (touch_bad h hO hOB hG hGB q hn hp hx).mono (fun e w' ⟨v1, v2, e1, e2, e3⟩ => ⟨v1, v2, e1, e2, dk e3⟩)
end Go.Proofs.YthchbcfecconbaaGreatDoor

namespace Go.Proofs.YthchbcfecconbaaGreatDoor
open Go.RowKit
def In64 (a : Int) : Prop := -9223372036854775808 ≤ a ∧ a ≤ 9223372036854775807
theorem eqT {x y : Int} (h : x = y) : (x == y) = true := by simp [h]
theorem eqF {x y : Int} (h : x ≠ y) : (x == y) = false := by simp [h]
theorem wrap_in (n : Int) : In64 (wrap64 n) := by unfold In64 wrap64; omega
theorem wrap_id {n : Int} (h : In64 n) : wrap64 n = n := by unfold In64 at h; unfold wrap64; omega
theorem wrap_ex (n : Int) : ∃ q : Int, wrap64 n = n + q * 18446744073709551616 :=
  ⟨-((n + 9223372036854775808) / 18446744073709551616), by unfold wrap64; omega⟩
theorem wrap_shift (n q : Int) : wrap64 (n + q * 18446744073709551616) = wrap64 n := by unfold wrap64; omega
theorem wrap_congr {m n : Int} (h : ∃ q : Int, m = n + q * 18446744073709551616) : wrap64 m = wrap64 n := by
  obtain ⟨q, rfl⟩ := h; exact wrap_shift n q
theorem wrap_wrap_add (a b : Int) : wrap64 (wrap64 a + b) = wrap64 (a + b) := by
  obtain ⟨q, hq⟩ := wrap_ex a; rw [hq]; exact wrap_congr ⟨q, by omega⟩
theorem wrap_add_wrap (a b : Int) : wrap64 (a + wrap64 b) = wrap64 (a + b) := by
  obtain ⟨q, hq⟩ := wrap_ex b; rw [hq]; exact wrap_congr ⟨q, by omega⟩
theorem div_back (a b : Int) (h : In64 a) : ap 1 (ap 3 (ap 4 a b) b) (ap 5 a b) = a := by
  rw [ap1, ap3, ap4, ap5]
  by_cases hb : b = 0
  · subst hb; simp [wrap_id h, show wrap64 0 = 0 by unfold wrap64; omega]
  · rw [if_neg hb, if_neg hb, wrap_wrap_add]
    obtain ⟨q, hq⟩ := wrap_ex (a.tdiv b)
    rw [hq]
    have e : a = b * a.tdiv b + a.tmod b := (Int.mul_tdiv_add_tmod a b).symm
    have e2 : (a.tdiv b + q * 18446744073709551616) * b + a.tmod b = a + (q * b) * 18446744073709551616 := by
      rw [Int.add_mul, Int.mul_comm (a.tdiv b) b, Int.mul_assoc, Int.mul_assoc, Int.mul_comm 18446744073709551616 b]
      omega
    rw [e2, wrap_shift, wrap_id h]
theorem rem_pos (a b : Int) (hb : b ≠ 0) (h : 0 ≤ a) : 0 ≤ ap 5 a b := by
  rw [ap5, if_neg hb]; exact Int.tmod_nonneg _ h
theorem rem_neg (a b : Int) (hb : b ≠ 0) (h : a ≤ 0) : ap 5 a b ≤ 0 := by
  rw [ap5, if_neg hb]
  have := Int.tmod_nonneg b (show 0 ≤ -a by omega)
  rw [Int.neg_tmod] at this; omega
end Go.Proofs.YthchbcfecconbaaGreatDoor

namespace Go.Proofs.YthchbcfecconbaaGreatDoor
open Go.RowKit
def u (a : Int) : Nat := (a % 18446744073709551616).toNat
theorem u_lt (a : Int) : u a < 18446744073709551616 := by unfold u; omega
theorem u_lt' (a : Int) : u a < 2 ^ 64 := u_lt a
theorem ofInt_u (a : Int) : (BitVec.ofInt 64 a).toNat = u a := by
  rw [BitVec.toNat_ofInt]; rfl
theorem and_i64 (a b : Int) : bits .and .i64 a b = wrap64 ((u a &&& u b : Nat) : Int) := by
  show IntKind.i64.wrap ((BitVec.ofInt 64 a &&& BitVec.ofInt 64 b).toNat : Int) = _
  rw [BitVec.toNat_and, ofInt_u, ofInt_u, IntWalk.i64_left]
theorem or_i64 (a b : Int) : bits .or .i64 a b = wrap64 ((u a ||| u b : Nat) : Int) := by
  show IntKind.i64.wrap ((BitVec.ofInt 64 a ||| BitVec.ofInt 64 b).toNat : Int) = _
  rw [BitVec.toNat_or, ofInt_u, ofInt_u, IntWalk.i64_left]
theorem xor_i64 (a b : Int) : bits .xor .i64 a b = wrap64 ((u a ^^^ u b : Nat) : Int) := by
  show IntKind.i64.wrap ((BitVec.ofInt 64 a ^^^ BitVec.ofInt 64 b).toNat : Int) = _
  rw [BitVec.toNat_xor, ofInt_u, ofInt_u, IntWalk.i64_left]
theorem in_and (a b : Int) : In64 (ap 6 a b) := by rw [ap6, and_i64]; exact wrap_in _
theorem in_or (a b : Int) : In64 (ap 7 a b) := by rw [ap7, or_i64]; exact wrap_in _
theorem in_xor (a b : Int) : In64 (ap 8 a b) := by rw [ap8, xor_i64]; exact wrap_in _
theorem and_lt (a b : Int) : u a &&& u b < 18446744073709551616 := Nat.and_lt_two_pow (n := 64) _ (u_lt' b)
theorem or_lt (a b : Int) : u a ||| u b < 18446744073709551616 := Nat.or_lt_two_pow (n := 64) (u_lt' a) (u_lt' b)
theorem xor_lt (a b : Int) : u a ^^^ u b < 18446744073709551616 := Nat.xor_lt_two_pow (n := 64) (u_lt' a) (u_lt' b)
theorem pow_lt (s : Nat) (h : s < 64) : 2 ^ s < 18446744073709551616 := Nat.pow_lt_pow_right (m := s) (n := 64) (by decide) h
end Go.Proofs.YthchbcfecconbaaGreatDoor

namespace Go.Proofs.YthchbcfecconbaaGreatDoor
open Go.RowKit
theorem ret64 {a b : Int} (h : a = b) : Ending.returned (.int .i64 a) = .returned (.int .i64 b) := by rw [h]
def clamp (n : Int) : Int := if 9223372036854775807 < n then 9223372036854775807 else if n < -9223372036854775808 then -9223372036854775808 else n
def mag (a : Int) : Int := (a.natAbs : Int)
theorem mag_pos {a : Int} (h : 0 ≤ a) : a = mag a := by unfold mag; omega
def Prod128 (hi lo x y : Int) : Prop := hi * 18446744073709551616 + lo = x * y ∧ 0 ≤ hi ∧ 0 ≤ lo ∧ lo < 18446744073709551616
end Go.Proofs.YthchbcfecconbaaGreatDoor

namespace Go.Proofs.YthchbcfecconbaaGreatDoor
open Go.ChangeShapes Go.WideShapes Go.ChangeAt Go.RowKit
end Go.Proofs.YthchbcfecconbaaGreatDoor

namespace Go.Proofs.YthchbcfecconbaaGreatDoor
open Go.ChangeShapes Go.WideShapes Go.ChangeAt Go.RowKit
end Go.Proofs.YthchbcfecconbaaGreatDoor

namespace Go.Proofs.YthchbcfecconbaaGreatDoor
open Go.ChangeShapes Go.WideShapes Go.ChangeAt Go.RowKit
end Go.Proofs.YthchbcfecconbaaGreatDoor

namespace Go.Proofs.YthchbcfecconbaaGreatDoor
open Go.ChangeShapes Go.WideShapes Go.ChangeAt Go.RowKit
theorem size_neg {a : Int} (h : a < 0) (h1 : -9223372036854775808 ≤ a) : -(a + 1) + 1 = mag a := by unfold mag; omega
theorem size_any (a : Int) (ha : In64 a) (w : World) :
    Calls Tryz.prog 92 #[.int .i64 a] w fun e w' => e = .returned (.int .u64 (mag a)) ∧ w' = w := by
  obtain ⟨h1, h2⟩ := ha
  by_cases c1 : a < 0
  · rw [← size_neg c1 h1]
    go_enter Tryz.func92, Tryz.ntmps92
    go_wp2
    go_ret
    exact ⟨rfl, rfl⟩
  · rw [← mag_pos (show 0 ≤ a by omega)]
    go_enter Tryz.func92, Tryz.ntmps92
    go_wp2
    go_ret
    exact ⟨rfl, rfl⟩
end Go.Proofs.YthchbcfecconbaaGreatDoor

namespace Go.Proofs.YthchbcfecconbaaGreatDoor
open Go.ChangeShapes Go.WideShapes Go.ChangeAt Go.RowKit
theorem signed_minus (n : Int) (h : 0 ≤ n ∧ n < 18446744073709551616) (w : World) :
    Calls Tryz.prog 93 #[.int .u64 n, .bool true] w fun e w' => e = .returned (.int .i64 (wrap64 (-n))) ∧ w' = w := by
  obtain ⟨h1, h2⟩ := h
  go_enter Tryz.func93, Tryz.ntmps93
  go_wp2
  go_ret
  refine ⟨ret64 ?_, rfl⟩
  rw [IntKind.wrap_u64]; unfold wrap64; omega
theorem signed_plus (n : Int) (h : 0 ≤ n ∧ n < 18446744073709551616) (w : World) :
    Calls Tryz.prog 93 #[.int .u64 n, .bool false] w fun e w' => e = .returned (.int .i64 (wrap64 n)) ∧ w' = w := by
  obtain ⟨h1, h2⟩ := h
  go_enter Tryz.func93, Tryz.ntmps93
  go_wp2
  go_ret
  exact ⟨rfl, rfl⟩
end Go.Proofs.YthchbcfecconbaaGreatDoor

namespace Go.Proofs.YthchbcfecconbaaGreatDoor
open Go.RowKit
theorem ap10_in (a k : Int) (h : In64 a) : In64 (ap 10 a k) := by
  rw [ap10]
  have hp : (0 : Int) < 2 ^ six k := Int.pow_pos (by decide)
  unfold In64 at *
  constructor
  · rw [Int.le_ediv_iff_mul_le hp]
    have : (1 : Int) ≤ 2 ^ six k := hp
    have h3 : (9223372036854775808 : Int) * 1 ≤ 9223372036854775808 * 2 ^ six k := Int.mul_le_mul_of_nonneg_left this (by decide)
    omega
  · by_cases h0 : 0 ≤ a
    · have := Int.ediv_le_self (2 ^ six k) h0; omega
    · have : a / 2 ^ six k < 0 := Int.ediv_neg_of_neg_of_pos (by omega) hp
      omega
end Go.Proofs.YthchbcfecconbaaGreatDoor

namespace Go.Proofs.YthchbcfecconbaaGreatDoor
open Go.ChangeShapes Go.WideShapes Go.ChangeAt Go.RowKit
theorem count_six (b : Int) : wrap64 ((IntKind.u64.wrap b).tmod 64) = ((six b : Nat) : Int) := by
  rw [IntKind.wrap_u64, tmod_of_emod]; unfold six wrap64; omega
theorem val64 {a b : Int} (h : a = b) : Value.int .i64 a = .int .i64 b := by rw [h]
theorem valU {a b : Int} (h : a = b) : Value.int .u64 a = .int .u64 b := by rw [h]
theorem dbl (a : Int) (j : Nat) : wrap64 (wrap64 (a * 2 ^ j) + wrap64 (a * 2 ^ j)) = wrap64 (a * 2 ^ (j + 1)) := by
  rw [wrap_wrap_add, wrap_add_wrap, Int.pow_succ]; congr 1; rw [← Int.mul_assoc]; omega
theorem half_in (a : Int) (j : Nat) (h : In64 a) : In64 (a / 2 ^ j) := by
  have hp : (0 : Int) < 2 ^ j := Int.pow_pos (by decide)
  unfold In64 at *
  constructor
  · rw [Int.le_ediv_iff_mul_le hp]
    have h3 : (9223372036854775808 : Int) * 1 ≤ 9223372036854775808 * 2 ^ j := Int.mul_le_mul_of_nonneg_left hp (by decide)
    omega
  · by_cases h0 : 0 ≤ a
    · have := Int.ediv_le_self (2 ^ j) h0; omega
    · have : a / 2 ^ j < 0 := Int.ediv_neg_of_neg_of_pos (by omega) hp
      omega
theorem half_succ (a : Int) (j : Nat) : a / 2 ^ (j + 1) = a / 2 ^ j / 2 := by
  rw [Int.pow_succ, Int.ediv_ediv_of_nonneg (Int.pow_nonneg (by decide))]
theorem half_neg (q : Int) (h1 : -9223372036854775808 ≤ q) (h2 : q < 0) : wrap64 (-wrap64 (wrap64 (-(q + 1).tdiv 2) + 1)) = q / 2 := by
  have e : (q + 1).tdiv 2 = -((-(q + 1)) / 2) := by
    have e1 := Int.neg_tdiv (-(q + 1)) 2
    have e2 : (-(q + 1)).tdiv 2 = (-(q + 1)) / 2 := Int.tdiv_eq_ediv_of_nonneg (by omega)
    rw [Int.neg_neg, e2] at e1
    exact e1
  rw [e, Int.neg_neg]
  unfold wrap64; omega
theorem shifted_shl (a b : Int) (ha : In64 a) (w : World) :
    Calls Tryz.prog 66 #[.int .i64 9, .int .i64 a, .int .i64 b] w fun e w' => e = .returned (.int .i64 (ap 9 a b)) ∧ w' = w := by
  have e6 := count_six b
  have h6 := six_lt b
  go_enter Tryz.func66, Tryz.ntmps66
  go_wp2
  go_loop [1, 8] (fun x i => ∃ j : Nat, j ≤ six b ∧ i = .int .i64 j ∧ x = .int .i64 (wrap64 (a * 2 ^ j))) (fun _ i => six b - (intOf i).toNat)
  case atStart => exact ⟨0, Nat.zero_le _, rfl, val64 (by rw [Int.pow_zero, Int.mul_one, wrap_id ha])⟩
  case round =>
    obtain ⟨j, hj, rfl, rfl⟩ := hrel
    have HD : Hid (_ = _) := dbl a j
    by_cases hlt : j < six b
    · go_wp2
      go_round
      case rel => exact ⟨j + 1, by omega, by go_num, val64 HD.out⟩
      case measure => simp [intOf]; omega
    · have : j = six b := by omega
      subst this
      go_wp2
      go_ret
      exact ⟨rfl, rfl⟩
set_option maxHeartbeats 1000000 in
theorem shifted_shr (a b : Int) (ha : In64 a) (w : World) :
    Calls Tryz.prog 66 #[.int .i64 10, .int .i64 a, .int .i64 b] w fun e w' => e = .returned (.int .i64 (ap 10 a b)) ∧ w' = w := by
  have e6 := count_six b
  have h6 := six_lt b
  go_enter Tryz.func66, Tryz.ntmps66
  go_wp2
  go_loop [1, 8] (fun x i => ∃ j : Nat, j ≤ six b ∧ i = .int .i64 j ∧ x = .int .i64 (a / 2 ^ j)) (fun _ i => six b - (intOf i).toNat)
  case atStart => exact ⟨0, Nat.zero_le _, rfl, val64 (by rw [Int.pow_zero, Int.ediv_one])⟩
  case round =>
    obtain ⟨j, hj, rfl, rfl⟩ := hrel
    have HD : Hid (_ = _) := half_succ a j
    obtain ⟨q1, q2⟩ := half_in a j ha
    by_cases hlt : j < six b
    · generalize a / 2 ^ j = q at *
      by_cases hq : q < 0
      · go_wp2
        go_round
        case rel => exact ⟨j + 1, by omega, by go_num, val64 (by rw [HD.out]; exact half_neg q q1 hq)⟩
        case measure => simp [intOf]; omega
      · go_wp2
        go_round
        case rel => exact ⟨j + 1, by omega, by go_num, val64 (by rw [HD.out])⟩
        case measure => simp [intOf]; omega
    · have : j = six b := by omega
      subst this
      go_wp2
      go_ret
      exact ⟨rfl, rfl⟩
end Go.Proofs.YthchbcfecconbaaGreatDoor

