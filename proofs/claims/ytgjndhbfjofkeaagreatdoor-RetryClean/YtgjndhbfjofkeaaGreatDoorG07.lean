import Derived.Test.YtgjndhbfjofkeaaGreatDoorG06
namespace Go.Proofs.YtgjndhbfjofkeaaGreatDoor
open Go.RowKit
def Ws.at_ (s : Ws) (m : Mm) (o : Nat) : Nat := (ca m.cells (s.ob o)).2.toNat
def Ws.now (s : Ws) (m : Mm) (o : Nat) : Nat := if s.isC m (s.lo (s.at_ m o)).owner then (s.lo (s.at_ m o)).new else (s.lo (s.at_ m o)).old
def Ws.value (s : Ws) (m : Mm) (o : Nat) : Vl := s.vl (s.now m o)
def Ws.com (s : Ws) (m : Mm) : List Vl := (List.range s.objs.length).map (s.value m)
structure Wf (s : Ws) (m : Mm) : Prop where
  vl : s.vals.length = s.locs.length
  lo : ∀ i, i < s.locs.length → (s.lo i).new = i ∧ (s.lo i).old < s.locs.length ∧ (s.lo i).owner < s.atts.length
  at_ : ∀ i, i < s.atts.length → (s.att i).status < m.cells.length ∧ (s.att i).flag < m.cells.length
  ob : ∀ i, i < s.objs.length → s.ob i < m.cells.length ∧ (ca m.cells (s.ob i)).2 = (s.at_ m i : Int) ∧ s.at_ m i < s.locs.length
  na : s.atts.length ≤ 16384
  nl : s.locs.length ≤ 16384
  no : s.objs.length ≤ 80
  a1 : 1 ≤ s.atts.length
theorem keeps_set3 (w : World) (b : Nat) (x y z : Value) : Keeps (fun k => k = b) w (((w.setCell ⟨b, 0, none⟩ x).setCell ⟨b, 1, none⟩ y).setCell ⟨b, 2, none⟩ z) :=
  ((keeps_set _ _ _ _).trans (keeps_set _ _ _ _)).trans (keeps_set _ _ _ _)
section
variable {w w' : World} {ρ ρ' : Nat → Nat} {u j wb mb : Nat} {s s' : Ws} {m m' : Mm} {vo va vl vn : Value}
end
end Go.Proofs.YtgjndhbfjofkeaaGreatDoor

namespace Go.Proofs.YtgjndhbfjofkeaaGreatDoor
open Go.RowKit
def set3 (W : World) (g o : Nat) (x : Vl) : World := ((W.setCell ⟨g, o, none⟩ (.int .i64 x.num)).setCell ⟨g, o + 1, none⟩ (.int .i64 x.next)).setCell ⟨g, o + 2, none⟩ (.bool x.dead)
theorem set3_keeps (W : World) (g o : Nat) (x : Vl) : Keeps (fun k => k = g) W (set3 W g o x) := ((keeps_set _ _ _ _).trans (keeps_set _ _ _ _)).trans (keeps_set _ _ _ _)
theorem stv {W : World} {base e g n cap : Nat} {L : List Vl} {i : Nat} (own : W.ownsRow base e 3 (.slice (some ⟨g, 0, none⟩) n cap) n (fl vc3 L)) (hi : i < L.length) (x : Vl) :
    (set3 W g (i * 3) x).ownsRow base e 3 (.slice (some ⟨g, 0, none⟩) n cap) n (fl vc3 (L.set i x)) := by
  have e1 := fl_set vc3_len L i 0 (L.getD i vl0) ⟨x.num, (L.getD i vl0).next, (L.getD i vl0).dead⟩ (.int .i64 x.num) (getD_get hi) (by omega) rfl
  have h1 := (own.stored (i * 3) (.int .i64 x.num)).1
  rw [show i * 3 = i * 3 + 0 from rfl, ← e1] at h1
  have q1 : (L.set i ⟨x.num, (L.getD i vl0).next, (L.getD i vl0).dead⟩)[i]? = some ⟨x.num, (L.getD i vl0).next, (L.getD i vl0).dead⟩ := by rw [List.getElem?_set_self hi]
  have e2 := fl_set vc3_len _ i 1 _ ⟨x.num, x.next, (L.getD i vl0).dead⟩ (.int .i64 x.next) q1 (by omega) rfl
  have h2 := (h1.stored (i * 3 + 1) (.int .i64 x.next)).1
  rw [← e2, List.set_set] at h2
  have q2 : (L.set i ⟨x.num, x.next, (L.getD i vl0).dead⟩)[i]? = some ⟨x.num, x.next, (L.getD i vl0).dead⟩ := by rw [List.getElem?_set_self hi]
  have e3 := fl_set vc3_len _ i 2 _ x (.bool x.dead) q2 (by omega) rfl
  have h3 := (h2.stored (i * 3 + 2) (.bool x.dead)).1
  rw [← e3, List.set_set] at h3
  exact h3
section
variable {w w' : World} {ρ ρ' : Nat → Nat} {u j wb mb : Nat} {s s' : Ws} {m m' : Mm} {vo va vl vn : Value}
set_option maxHeartbeats 800000 in
set_option maxRecDepth 1000000 in
theorem objects_any (h : St w ρ u j wb mb s m) :
    Calls Tryz.prog 104 #[.pointer (some ⟨wb, 0, none⟩)] w fun e w' => e = .returned (.int .i64 (s.objs.length : Int)) ∧ w = w' := by
  obtain ⟨vo, va, vl, vn, hw⟩ := h.wj
  have hs := sizeO hw.po
  have hp := weq wb
  clear h hw
  go_enter Tryz.func104, Tryz.ntmps104
  go_wp2_with (go_at_call 123; refine hs.mono ?_; rintro e w' ⟨rfl, rfl⟩)
  go_ret
  exact ⟨rfl, rfl⟩
end
end Go.Proofs.YtgjndhbfjofkeaaGreatDoor

namespace Go.Proofs.YtgjndhbfjofkeaaGreatDoor
open Go.RowKit
section
variable {w w' : World} {ρ ρ' : Nat → Nat} {u j wb mb : Nat} {s s' : Ws} {m m' : Mm} {vo va vl vn : Value}
def Ws.roomA (s : Ws) (m : Mm) : Bool := decide (s.atts.length < 16384) && decide (m.cells.length + 2 ≤ 65536)
set_option maxHeartbeats 1600000 in
set_option maxRecDepth 1000000 in
theorem Attempt_ok (h : St w ρ u j wb mb s m) (hr : s.roomA m = true) (th st pr : Int) :
    Calls Tryz.prog 103 #[.pointer (some ⟨wb, 0, none⟩), .agg #[.int .i64 th, .int .i64 st, .int .i64 pr]] w fun e w' =>
      e = .returned (.tuple #[.int .i64 (s.atts.length : Int), .int .i64 0]) ∧ ∃ ρ', St w' ρ' u j wb mb (s.beg th st pr m.cells.length) ((m.make 1).make 0) ∧ Ext (Sr u j) w w' ρ ρ' := by
  simp only [Ws.roomA, Bool.and_eq_true, decide_eq_true_eq] at hr
  obtain ⟨h1, h2⟩ := hr
  obtain ⟨w0, hw0⟩ : ∃ w0, w0 = w.alloc (.cells #[.int .i64 th, .int .i64 st, .int .i64 pr] 51) := ⟨_, rfl⟩
  have K0 : Keeps (fun _ => False) w w0 := by rw [hw0]; exact (Keeps.refl _ w).alloc _
  have c0 : w0.cell? ⟨w.heap.size, 0, none⟩ = some (.int .i64 th) := by rw [hw0]; simp
  have c1 : w0.cell? ⟨w.heap.size, 1, none⟩ = some (.int .i64 st) := by rw [hw0]; simp
  have c2 : w0.cell? ⟨w.heap.size, 2, none⟩ = some (.int .i64 pr) := by rw [hw0]; simp
  obtain ⟨h0, x0⟩ := h.new K0
  obtain ⟨vo, va, vl, vn, hw⟩ := h0.wj
  have hs := sizeA hw.pa
  have hm := room_any h0 (c := 2) (by omega)
  have hb := begin_att h0 (by omega) h2 th st pr 0 0 1
  have hp := weq wb
  have d1 : decide ((m.cells.length : Int) ≤ 65536 - 2) = true := by simp; omega
  rw [d1] at hm
  have d2 : decide ((16384 : Int) ≤ (s.atts.length : Int)) = false := by simp; omega
  clear h hw d1 h0
  go_enter Tryz.func103, Tryz.ntmps103
  go_wp2_with fail
  rw [← hw0]
  clear hw0
  refine hs.mono ?_
  clear hs
  rintro e w' ⟨rfl, rfl⟩
  go_wp2_with (first | (go_at_call 70; refine hm.mono ?_; clear hm; rintro e w' ⟨rfl, rfl⟩) | (go_at_call 71; refine hb.mono ?_; clear hb; rintro e w' ⟨rfl, ρ1, h1, x1⟩))
  go_ret2
  exact ⟨rfl, ρ1, h1, x0.trans x1⟩
set_option maxHeartbeats 1600000 in
set_option maxRecDepth 1000000 in
theorem Version_ok (h : St w ρ u j wb mb s m) {i : Nat} (hi : i < s.vals.length) :
    Calls Tryz.prog 126 #[.pointer (some ⟨wb, 0, none⟩), .int .i64 (i : Int)] w fun e w' => e = .returned (.tuple #[vv (s.vl i), .int .i64 0]) ∧ Keeps (fun _ => False) w w' := by
  obtain ⟨w0, hw0⟩ : ∃ w0, w0 = w.alloc (.cells #[.int .i64 0, .int .i64 0, .bool false] 34) := ⟨_, rfl⟩
  have K0 : Keeps (fun _ => False) w w0 := by rw [hw0]; exact (Keeps.refl _ w).alloc _
  have b0 : w0.cell? ⟨w.heap.size, 0, none⟩ = some (.int .i64 0) := by rw [hw0]; simp
  have b1 : w0.cell? ⟨w.heap.size, 1, none⟩ = some (.int .i64 0) := by rw [hw0]; simp
  have b2 : w0.cell? ⟨w.heap.size, 2, none⟩ = some (.bool false) := by rw [hw0]; simp
  have bz : ∀ o, w0.frozen? ⟨w.heap.size, o, none⟩ = false := by intro o; rw [hw0]; simp
  have z0 := bz 0
  have z1 := bz 1
  have z2 := bz 2
  have h0 := (h.new K0).1
  obtain ⟨vo, va, vl, vn, hw⟩ := h0.wj
  obtain ⟨gv, hgv, rv, lv, v0, v1, v2⟩ := hw.ver hi
  have ngv : ¬ gv = w.heap.size := fun e => by rw [e, h.bnd _ (Nat.le_refl _)] at rv; omega
  have ha := atV hw.pv hi hgv
  have hp := weq wb
  have hq := veq gv (i * 3)
  generalize s.vl i = V at *
  clear h hw h0 bz
  go_enter Tryz.func126, Tryz.ntmps126
  go_wp2_with fail
  rw [← hw0]
  clear hw0
  refine ha.mono ?_
  rintro e w' ⟨rfl, rfl⟩
  go_wp2_with ((go_at_call 138; refine ha.mono ?_; rintro e w' ⟨rfl, rfl⟩))
  (try simp only [Exit.inBlock, Exit.then])
  refine bodyPost_ret (v := .tuple #[.agg #[.int .i64 V.num, .int .i64 V.next, .bool V.dead], .int .i64 0]) ?_ rfl ⟨rfl, ?_⟩
  · rw [results_cell_tmp rfl]
    go_simp
  · exact K0.trans' (keeps_set3 _ w.heap.size _ _ _) (fun _ _ e => e) (fun i hi e => by omega)
end
end Go.Proofs.YtgjndhbfjofkeaaGreatDoor

namespace Go.Proofs.YtgjndhbfjofkeaaGreatDoor
open Go.RowKit
section
variable {w w' : World} {ρ ρ' : Nat → Nat} {u j wb mb : Nat} {s s' : Ws} {m m' : Mm} {vo va vl vn : Value}
set_option maxHeartbeats 1600000 in
set_option maxRecDepth 1000000 in
theorem Make_ok (h : St w ρ u j wb mb s m) (f : Wf s m) {att : Nat} (ha1 : 1 ≤ att) (ha : att < s.atts.length) {old : Nat} (ho : old < s.locs.length) (hC : s.isC m (s.lo old).owner = true) (hr : s.locs.length < 16384) :
    Calls Tryz.prog 152 #[.pointer (some ⟨wb, 0, none⟩), .int .i64 (att : Int), .int .i64 (old : Int)] w fun e w' => e = .returned (.tuple #[.int .i64 (s.locs.length : Int), .int .i64 0]) ∧ ∃ ρ', St w' ρ' u j wb mb (s.lay att old (s.vl old)) m ∧ Ext (Sr u j) w w' ρ ρ' := by
  obtain ⟨vo, va, vl, vn, hw⟩ := h.wj
  obtain ⟨ga, hga, _, _, _⟩ := hw.att ha
  have hc := attempt_ok hw ha hga
  have hq := aeq ga (att * 5)
  have d0 : ((att : Int) == 0) = false := by simp; omega
  have d1 : decide ((att : Int) = 0) = false := by simp; omega
  have d2 : (att == 0) = false := by simp; omega
  have hv := Version_ok h (by rw [f.vl]; exact ho : old < s.vals.length)
  obtain ⟨gl, hgl, rl, ll, l0, _, _, _⟩ := hw.loc ho
  obtain ⟨hnew, hold, hown⟩ := f.lo _ ho
  have hat : ∀ (W : World) (k : Keeps (fun _ => False) w W), _ := fun W k => atL (hw.new h.bnd k).pl ho hgl
  have hco : ∀ (W : World) (k : Keeps (fun _ => False) w W), _ := fun W k => committed_any (h.new k).1 hown (f.at_ _ hown).1
  rw [hC] at hco
  have hsz : ∀ (W : World) (k : Keeps (fun _ => False) w W), _ := fun W k => sizeL (hw.new h.bnd k).pl
  generalize s.vl old = V at *
  have e1 : decide ((16384 : Int) ≤ (s.locs.length : Int)) = false := by simp; omega
  have e2 : decide (16384 ≤ s.locs.length) = false := by simp; omega
  have hla : ∀ (W : World) (k : Keeps (fun _ => False) w W), _ := fun W k => lay_any (h.new k).1 (by omega) (by rw [f.vl]; omega) att old V
  have hnw : ∀ (W : World) (k : Keeps (fun _ => False) w W), _ := fun W k => (h.new k).2
  clear h hw
  go_enter Tryz.func152, Tryz.ntmps152
  go_wp2_with (first | (go_at_call 35; refine hc.mono ?_; clear hc; rintro e w' ⟨rfl, rfl⟩) | (go_at_call 126; refine hv.mono ?_; clear hv; rintro e w2 ⟨rfl, k2⟩; simp only [vv]) | (go_at_call 73; refine (hat _ (k2.alloc _)).mono ?_; clear hat; rintro e w3 ⟨rfl, hw3⟩; have hw3' := hw3; have k3 : Keeps (fun _ => False) w w3 := hw3 ▸ (k2.alloc _); have l0' := k3.cell l0 (fun e => e); clear hw3; have B0 : w3.cell? ⟨w2.heap.size, 0, none⟩ = some (.int .i64 V.num) := (by rw [← hw3']; simp); have B1 : w3.cell? ⟨w2.heap.size, 1, none⟩ = some (.int .i64 V.next) := (by rw [← hw3']; simp); have B2 : w3.cell? ⟨w2.heap.size, 2, none⟩ = some (.bool V.dead) := (by rw [← hw3']; simp); clear hw3') | (go_at_call 137; refine (hco _ k3).mono ?_; clear hco; rintro e w4 ⟨rfl, k4⟩; have k5 := k3.trans k4; clear l0'; have C0 := k4.cell B0 (fun e => e); have C1 := k4.cell B1 (fun e => e); have C2 := k4.cell B2 (fun e => e)) | (go_at_call 168; refine (hsz _ k5).mono ?_; clear hsz; rintro e w6 ⟨rfl, hw6⟩; have k6 : Keeps (fun _ => False) w w6 := hw6 ▸ k5; subst hw6) | (go_at_call 72; refine (hla _ k6).mono ?_; clear hla; rintro e w7 ⟨rfl, ρ7, h7, x7⟩))
  go_ret2
  exact ⟨rfl, ρ7, h7, (hnw _ k6).trans x7⟩
end
end Go.Proofs.YtgjndhbfjofkeaaGreatDoor

namespace Go.Proofs.YtgjndhbfjofkeaaGreatDoor
open Go.RowKit
def Mm.swap (m : Mm) (c : Nat) (old next : Int) : Mm := m.take 2 c (if (ca m.cells c).2 = old then next else (ca m.cells c).2) (decide ((ca m.cells c).2 = old))
def Mm.load (m : Mm) (c : Nat) : Mm := m.take 1 c (ca m.cells c).2 true
def Ws.put (s : Ws) (i : Nat) (v : Vl) : Ws := { s with vals := s.vals.set i v }
def Ws.use (s : Ws) (i : Nat) (b : Bool) : Ws := { s with locs := s.locs.set i { s.lo i with used := b } }
section
variable {w w' : World} {ρ ρ' : Nat → Nat} {u j wb mb : Nat} {s s' : Ws} {m m' : Mm} {vo va vl vn : Value}
theorem sswap' (h : St w ρ u j wb mb s m) {c : Nat} (hc : c < m.cells.length) (hfr : m.free = true) (hlog : (m.log.length + 1) * 56 ≤ 140737488355328) (old next : Int) :
    Calls Tryz.prog 156 #[.pointer (some ⟨mb, 0, none⟩), .int .i64 (c : Int), .int .i64 old, .int .i64 next] w fun e w' =>
      e = .returned (.tuple #[.bool (decide ((ca m.cells c).2 = old)), .int .i64 0]) ∧ ∃ ρ', St w' ρ' u j wb mb s (m.swap c old next) ∧ Ext (Sr u j) w w' ρ ρ' ∧ Ext (fun r => r = u) w w' ρ ρ' := by
  obtain ⟨F, hm1, hF⟩ := h.mj
  refine (swap_ok hm1 hc hfr hlog old next).mono ?_
  rintro e w' ⟨rfl, F', h', l⟩
  obtain ⟨ρ', k⟩ := MJ.next hF h' l
  exact ⟨rfl, ρ', (h.mem k).1, (h.mem k).2, k.2.1⟩
theorem sload' (h : St w ρ u j wb mb s m) {c : Nat} (hc : c < m.cells.length) (hfr : m.free = true) (hlog : (m.log.length + 1) * 56 ≤ 140737488355328) :
    Calls Tryz.prog 143 #[.pointer (some ⟨mb, 0, none⟩), .int .i64 (c : Int)] w fun e w' =>
      e = .returned (.tuple #[.int .i64 (ca m.cells c).2, .int .i64 0]) ∧ ∃ ρ', St w' ρ' u j wb mb s (m.load c) ∧ Ext (Sr u j) w w' ρ ρ' := sload h hc hfr hlog
theorem PJ.far {k g r e z n : Nat} {v : Value} {xs : List Value} (h : PJ w ρ ⟨wb, k, none⟩ r e z v n xs) (K : Keeps (fun i => i = g) w w') (hg : ρ g ≠ r) (hb : wb ≠ g) : PJ w' ρ ⟨wb, k, none⟩ r e z v n xs :=
  ⟨K.cell h.at_ hb, K.owns h.row (fun x hx e => hg (by rw [← e]; exact h.role x hx)), h.role⟩
theorem ext_own {g : Nat} (hb : Bnd w ρ) (K : Keeps (fun i => i = g) w w') (hg : j ≤ ρ g ∧ ρ g < j + 5) : Ext (fun r => j ≤ r ∧ r < j + 5) w w' ρ ρ :=
  ⟨K.mono (fun i _ e => by subst e; exact hg), fun _ _ => rfl, fun i hi => .inr (hb i hi)⟩
theorem St.setV (h : St w ρ u j wb mb s m) (hw : WV w ρ j wb mb s vo va vl vn) {g i : Nat} (hg : vn.ownBlock = some g) (hi : i < s.vals.length) (v : Vl) :
    St (set3 w g (i * 3) v) ρ u j wb mb (s.put i v) m ∧ Ext (Sr u j) w (set3 w g (i * 3) v) ρ ρ := by
  have K := set3_keeps w g (i * 3) v
  have rg := hw.pv.role g hg
  have nb : wb ≠ g := fun e => by have := hw.role; rw [e, rg] at this; omega
  refine h.own ⟨vo, va, vl, vn, hw.role, K.cell hw.mem nb, fun o ho => (K.frozen (p := ⟨wb, o, none⟩) hw.lt nb).trans (hw.z o ho), hw.po.far K (by omega) nb, hw.pa.far K (by omega) nb, hw.pl.far K (by omega) nb, K.cell hw.pv.at_ nb, ?_, hw.pv.role⟩ (ext_own h.bnd K (by omega)) (fun i hi => h.bnd i (Nat.le_trans K.size hi))
  have row := hw.pv.row
  obtain ⟨a, cap, rfl, hs⟩ := hw.pv.slice
  obtain ⟨g', e1, e2, _⟩ := hs (by omega)
  rw [hg] at e2
  cases e2
  subst e1
  have := stv row hi v
  simpa [Ws.put] using this
theorem St.setU (h : St w ρ u j wb mb s m) (hw : WV w ρ j wb mb s vo va vl vn) {g i : Nat} (hg : vl.ownBlock = some g) (hi : i < s.locs.length) (b : Bool) :
    St (w.setCell ⟨g, i * 4 + 3, none⟩ (.bool b)) ρ u j wb mb (s.use i b) m ∧ Ext (Sr u j) w (w.setCell ⟨g, i * 4 + 3, none⟩ (.bool b)) ρ ρ := by
  have K := keeps_set w g (i * 4 + 3) (.bool b)
  have rg := hw.pl.role g hg
  have nb : wb ≠ g := fun e => by have := hw.role; rw [e, rg] at this; omega
  refine h.own ⟨vo, va, vl, vn, hw.role, K.cell hw.mem nb, fun o ho => (K.frozen (p := ⟨wb, o, none⟩) hw.lt nb).trans (hw.z o ho), hw.po.far K (by omega) nb, hw.pa.far K (by omega) nb, ⟨K.cell hw.pl.at_ nb, ?_, hw.pl.role⟩, hw.pv.far K (by omega) nb⟩ (ext_own h.bnd K (by omega)) (fun i hi => h.bnd i (Nat.le_trans K.size hi))
  have row := hw.pl.row
  obtain ⟨a, cap, rfl, hs⟩ := hw.pl.slice
  obtain ⟨g', e1, e2, _⟩ := hs (by omega)
  rw [hg] at e2
  cases e2
  subst e1
  have h1 := (row.stored (i * 4 + 3) (.bool b)).1
  have e1 := fl_set lc_len s.locs i 3 (s.lo i) { s.lo i with used := b } (.bool b) (getD_get (d := lo0) hi) (by omega) rfl
  rw [← e1] at h1
  simpa [Ws.use] using h1
set_option maxHeartbeats 1600000 in
set_option maxRecDepth 1000000 in
theorem Put_ok (h : St w ρ u j wb mb s m) (f : Wf s m) {i : Nat} (hi : i < s.locs.length) (ho : (s.lo i).owner ≠ 0) (hC : s.isC m (s.lo i).owner = false) (v : Vl) :
    Calls Tryz.prog 113 #[.pointer (some ⟨wb, 0, none⟩), .int .i64 (i : Int), .agg #[.int .i64 v.num, .int .i64 v.next, .bool v.dead]] w fun e w' => e = .returned (.int .i64 0) ∧ ∃ ρ', St w' ρ' u j wb mb (s.put i v) m ∧ Ext (Sr u j) w w' ρ ρ' := by
  obtain ⟨w0, hw0⟩ : ∃ w0, w0 = w.alloc (.cells #[.int .i64 v.num, .int .i64 v.next, .bool v.dead] 34) := ⟨_, rfl⟩
  have K0 : Keeps (fun _ => False) w w0 := by rw [hw0]; exact (Keeps.refl _ w).alloc _
  have b0 : w0.cell? ⟨w.heap.size, 0, none⟩ = some (.int .i64 v.num) := by rw [hw0]; simp
  have b1 : w0.cell? ⟨w.heap.size, 1, none⟩ = some (.int .i64 v.next) := by rw [hw0]; simp
  have b2 : w0.cell? ⟨w.heap.size, 2, none⟩ = some (.bool v.dead) := by rw [hw0]; simp
  obtain ⟨h0, x0⟩ := h.new K0
  obtain ⟨vo, va, vl, vn, hw⟩ := h0.wj
  obtain ⟨gl, hgl, rl, _, l0, _, l2, _⟩ := hw.loc hi
  obtain ⟨hnew, _, hown⟩ := f.lo i hi
  rw [hnew] at l2
  have hiv : i < s.vals.length := by rw [f.vl]; exact hi
  obtain ⟨gv, hgv, rv, lv, v0, v1, v2⟩ := hw.ver hiv
  have hc := committed_any h0 hown (f.at_ _ hown).1
  rw [hC] at hc
  have hl := locator_ok hw hi hgl
  have hq := leq gl (i * 4)
  have hav : ∀ (W : World) (k : Keeps (fun _ => False) w0 W), _ := fun W k => atV (hw.new h0.bnd k).pv hiv hgv
  have fin : ∀ (W : World) (k : Keeps (fun _ => False) w0 W), _ := fun W k => ((h0.new k).1.setV (hw.new h0.bnd k) hgv hiv v)
  have xn : ∀ (W : World) (k : Keeps (fun _ => False) w0 W), _ := fun W k => (h0.new k).2
  have ngl : ¬ gl = gv := fun e => by rw [e] at rl; omega
  have ngl' : ¬ gv = gl := fun e => ngl e.symm
  have b00 : ρ w.heap.size = 0 := h.bnd _ (Nat.le_refl _)
  have ngb : ¬ gv = w.heap.size := fun e => by rw [e] at rv; omega
  have ngb' : ¬ w.heap.size = gv := fun e => ngb e.symm
  have zv : ∀ o, w0.frozen? ⟨gv, o, none⟩ = false := fun o => by
    have row := hw.pv.row
    obtain ⟨a, cap, e0, hs⟩ := hw.pv.slice
    obtain ⟨g', e1, e2, _⟩ := hs (by omega)
    rw [hgv] at e2
    cases e2
    rw [e0, e1] at row
    exact row.frozenAt o
  generalize (s.lo i).owner = o at *
  have d1 : ((o : Int) == 0) = false := by simp; omega
  have d2 : (o == 0) = false := by simp; omega
  have d3 : decide ((o : Int) = 0) = false := by simp; omega
  generalize s.vl i = V at *
  clear h hw hnew h0
  go_enter Tryz.func113, Tryz.ntmps113
  go_wp2_with fail
  rw [← hw0]
  clear hw0
  refine hl.mono ?_
  clear hl
  rintro e w' ⟨rfl, rfl⟩
  go_wp2_with (go_at_call 137; refine hc.mono ?_; clear hc; rintro e w2 ⟨rfl, k2⟩)
  have KD := k2.drew
  have zv2 : ∀ o, w2.frozen? ⟨gv, o, none⟩ = false := fun o => (k2.frozen (p := ⟨gv, o, none⟩) lv (fun e => e)).trans (zv o)
  have z0 := zv2 (i * 3)
  have z1 := zv2 (i * 3 + 1)
  have z2 := zv2 (i * 3 + 2)
  replace b0 := k2.cell b0 (fun e => e)
  replace b1 := k2.cell b1 (fun e => e)
  replace b2 := k2.cell b2 (fun e => e)
  replace l2 := k2.cell l2 (fun e => e)
  replace v0 := k2.cell v0 (fun e => e)
  replace v1 := k2.cell v1 (fun e => e)
  replace v2 := k2.cell v2 (fun e => e)
  clear zv zv2 l0
  go_region_held3 (fun w' => w'.cell? ⟨gl, i * 4 + 2, none⟩ = some (.int .i64 (i : Int)) ∧ w'.cell? ⟨w.heap.size, 0, none⟩ = some (.int .i64 v.num) ∧ w'.cell? ⟨w.heap.size, 1, none⟩ = some (.int .i64 v.next) ∧ w'.cell? ⟨w.heap.size, 2, none⟩ = some (.bool v.dead)) (go_keep) ((go_at_call 138; refine (hav _ KD).mono ?_; rintro e w3 ⟨rfl, rfl⟩))
  all_goals
    (try simp only [Exit.then])
    go_wp2_with fail
    go_ret
    obtain ⟨f1, f2⟩ := fin _ KD
    exact ⟨rfl, ρ, f1, x0.trans ((xn _ KD).trans f2)⟩
end
end Go.Proofs.YtgjndhbfjofkeaaGreatDoor

namespace Go.Proofs.YtgjndhbfjofkeaaGreatDoor
open Go.RowKit
section
variable {w w' : World} {ρ ρ' : Nat → Nat} {u j wb mb : Nat} {s s' : Ws} {m m' : Mm} {vo va vl vn : Value}
set_option maxHeartbeats 1600000 in
set_option maxRecDepth 1000000 in
theorem OCell_ok (h : St w ρ u j wb mb s m) {i : Nat} (hi : i < s.objs.length) :
    Calls Tryz.prog 142 #[.pointer (some ⟨wb, 0, none⟩), .int .i64 (i : Int)] w fun e w' => e = .returned (.tuple #[.int .i64 (s.ob i : Int), .int .i64 0]) ∧ w = w' := by
  obtain ⟨vo, va, vl, vn, hw⟩ := h.wj
  obtain ⟨go, hgo, _, _, d0⟩ := hw.obj hi
  have ha := atO hw.po hi hgo
  simp only [Nat.mul_one] at ha d0
  have hp := weq wb
  have hq := oeq go i
  generalize s.ob i = O at *
  clear h hw
  go_enter Tryz.func142, Tryz.ntmps142
  go_wp2_with (go_at_call 157; refine ha.mono ?_; rintro e w' ⟨rfl, rfl⟩)
  go_ret2
  exact ⟨rfl, rfl⟩
set_option maxHeartbeats 1600000 in
set_option maxRecDepth 1000000 in
theorem SCell_ok (h : St w ρ u j wb mb s m) {i : Nat} (hi : i < s.atts.length) :
    Calls Tryz.prog 159 #[.pointer (some ⟨wb, 0, none⟩), .int .i64 (i : Int)] w fun e w' => e = .returned (.tuple #[.int .i64 ((s.att i).status : Int), .int .i64 0]) ∧ w = w' := by
  obtain ⟨vo, va, vl, vn, hw⟩ := h.wj
  obtain ⟨ga, hga, _, _, _, _, _, d3, d4⟩ := hw.att hi
  have ha := attempt_ok hw hi hga
  have hq := aeq ga (i * 5)
  generalize s.att i = A at *
  clear h hw
  go_enter Tryz.func159, Tryz.ntmps159
  go_wp2_with (go_at_call 35; refine ha.mono ?_; rintro e w' ⟨rfl, rfl⟩)
  go_ret2
  exact ⟨rfl, rfl⟩
set_option maxHeartbeats 1600000 in
set_option maxRecDepth 1000000 in
theorem FCell_ok (h : St w ρ u j wb mb s m) {i : Nat} (hi : i < s.atts.length) :
    Calls Tryz.prog 181 #[.pointer (some ⟨wb, 0, none⟩), .int .i64 (i : Int)] w fun e w' => e = .returned (.tuple #[.int .i64 ((s.att i).flag : Int), .int .i64 0]) ∧ w = w' := by
  obtain ⟨vo, va, vl, vn, hw⟩ := h.wj
  obtain ⟨ga, hga, _, _, _, _, _, d3, d4⟩ := hw.att hi
  have ha := attempt_ok hw hi hga
  have hq := aeq ga (i * 5)
  generalize s.att i = A at *
  clear h hw
  go_enter Tryz.func181, Tryz.ntmps181
  go_wp2_with (go_at_call 35; refine ha.mono ?_; rintro e w' ⟨rfl, rfl⟩)
  go_ret2
  exact ⟨rfl, rfl⟩
set_option maxHeartbeats 1600000 in
set_option maxRecDepth 1000000 in
theorem Load_ok (h : St w ρ u j wb mb s m) (f : Wf s m) {i : Nat} (hi : i < s.objs.length) (hfr : m.free = true) (hlog : (m.log.length + 1) * 56 ≤ 140737488355328) :
    Calls Tryz.prog 130 #[.pointer (some ⟨wb, 0, none⟩), .int .i64 (i : Int)] w fun e w' => e = .returned (.tuple #[.int .i64 (ca m.cells (s.ob i)).2, .int .i64 0]) ∧ ∃ ρ', St w' ρ' u j wb mb s (m.load (s.ob i)) ∧ Ext (Sr u j) w w' ρ ρ' := by
  have ha := OCell_ok h hi
  have hl := sload' h (f.ob i hi).1 hfr hlog
  obtain ⟨vo, va, vl, vn, hw⟩ := h.wj
  have f0 := hw.mem
  generalize (ca m.cells (s.ob i)).2 = x at *
  clear h hw
  go_enter Tryz.func130, Tryz.ntmps130
  go_wp2_with (first | (go_at_call 142; refine ha.mono ?_; rintro e w' ⟨rfl, rfl⟩) | (go_at_call 143; refine hl.mono ?_; clear hl; rintro e w2 ⟨rfl, h2⟩))
  go_ret2
  exact ⟨rfl, h2⟩
set_option maxHeartbeats 1600000 in
set_option maxRecDepth 1000000 in
theorem Status_ok (h : St w ρ u j wb mb s m) (f : Wf s m) {i : Nat} (hi : i < s.atts.length) (hfr : m.free = true) (hlog : (m.log.length + 1) * 56 ≤ 140737488355328) :
    Calls Tryz.prog 144 #[.pointer (some ⟨wb, 0, none⟩), .int .i64 (i : Int)] w fun e w' => e = .returned (.tuple #[.int .i64 (ca m.cells ((s.att i).status)).2, .int .i64 0]) ∧ ∃ ρ', St w' ρ' u j wb mb s (m.load ((s.att i).status)) ∧ Ext (Sr u j) w w' ρ ρ' := by
  have ha := SCell_ok h hi
  have hl := sload' h (f.at_ i hi).1 hfr hlog
  obtain ⟨vo, va, vl, vn, hw⟩ := h.wj
  have f0 := hw.mem
  generalize (ca m.cells ((s.att i).status)).2 = x at *
  clear h hw
  go_enter Tryz.func144, Tryz.ntmps144
  go_wp2_with (first | (go_at_call 159; refine ha.mono ?_; rintro e w' ⟨rfl, rfl⟩) | (go_at_call 143; refine hl.mono ?_; clear hl; rintro e w2 ⟨rfl, h2⟩))
  go_ret2
  exact ⟨rfl, h2⟩
set_option maxHeartbeats 1600000 in
set_option maxRecDepth 1000000 in
theorem Flag_ok (h : St w ρ u j wb mb s m) (f : Wf s m) {i : Nat} (hi : i < s.atts.length) (hfr : m.free = true) (hlog : (m.log.length + 1) * 56 ≤ 140737488355328) :
    Calls Tryz.prog 174 #[.pointer (some ⟨wb, 0, none⟩), .int .i64 (i : Int)] w fun e w' => e = .returned (.tuple #[.bool (decide ((ca m.cells ((s.att i).flag)).2 = 1)), .int .i64 0]) ∧ ∃ ρ', St w' ρ' u j wb mb s (m.load ((s.att i).flag)) ∧ Ext (Sr u j) w w' ρ ρ' := by
  have ha := FCell_ok h hi
  have hl := sload' h (f.at_ i hi).2 hfr hlog
  obtain ⟨vo, va, vl, vn, hw⟩ := h.wj
  have f0 := hw.mem
  generalize (ca m.cells ((s.att i).flag)).2 = x at *
  clear h hw
  go_enter Tryz.func174, Tryz.ntmps174
  go_wp2_with (first | (go_at_call 181; refine ha.mono ?_; rintro e w' ⟨rfl, rfl⟩) | (go_at_call 143; refine hl.mono ?_; clear hl; rintro e w2 ⟨rfl, h2⟩))
  go_ret2
  exact ⟨rfl, h2⟩
set_option maxHeartbeats 1600000 in
set_option maxRecDepth 1000000 in
theorem end_ok (h : St w ρ u j wb mb s m) (f : Wf s m) {i : Nat} (h1 : 1 ≤ i) (hi : i < s.atts.length) (hfr : m.free = true) (hlog : (m.log.length + 1) * 56 ≤ 140737488355328) (sv : Int) :
    Calls Tryz.prog 140 #[.pointer (some ⟨wb, 0, none⟩), .int .i64 (i : Int), .int .i64 sv] w fun e w' => e = .returned (.tuple #[.bool (decide ((ca m.cells (s.att i).status).2 = 1)), .int .i64 0]) ∧ ∃ ρ', St w' ρ' u j wb mb s (m.swap (s.att i).status (1) (sv)) ∧ Ext (Sr u j) w w' ρ ρ' := by
  obtain ⟨vo, va, vl, vn, hw⟩ := h.wj
  obtain ⟨ga, hga, ra, la, _, _, _, d3, d4⟩ := hw.att hi
  have ha := attempt_ok hw hi hga
  have hq := aeq ga (i * 5)
  have f0 := hw.mem
  have rw_ := hw.role
  have d0 : ((i : Int) == 0) = false := by simp; omega
  have d1 : decide ((i : Int) = 0) = false := by simp; omega
  have d2 : (i == 0) = false := by simp; omega
  have hl : ∀ (W : World) (k : Keeps (fun _ => False) w W), _ := fun W k => sswap' (h.new k).1 (f.at_ i hi).1 hfr hlog (1) (sv)
  have hx : ∀ (W : World) (k : Keeps (fun _ => False) w W), _ := fun W k => (h.new k).2
  have nu0 : ¬ ρ wb = u := fun e => h.ap (by omega)
  have nu2 : ¬ ρ ga = u := fun e => h.ap (by omega)
  generalize s.att i = A at *
  generalize (ca m.cells A.status).2 = x at *
  clear h hw
  go_enter Tryz.func140, Tryz.ntmps140
  go_wp2_with (go_at_call 35; refine ha.mono ?_; rintro e w' ⟨rfl, rfl⟩)
  have KD : Keeps (fun _ => False) w w.drew := (Keeps.refl _ w).drew
  go_region_held3 (fun w' => w'.cell? ⟨wb, 0, none⟩ = some (.pointer (some ⟨mb, 0, none⟩)) ∧ w'.cell? ⟨ga, i * 5 + 3, none⟩ = some (.int .i64 (A.status : Int))) (go_keep) ((go_at_call 156; refine (hl _ KD).mono ?_; rintro e w3 ⟨rfl, ρ3, h3, x3, y3⟩; have q1 := y3.cell (p := ⟨wb, 0, none⟩) (KD.cell f0 (fun e => e)) nu0; have q2 := y3.cell (p := ⟨ga, i * 5 + 3, none⟩) (KD.cell d3 (fun e => e)) nu2))
  all_goals
    (try simp only [Exit.then])
    go_wp2_with fail
    go_ret2
    exact ⟨rfl, ρ3, h3, (hx _ KD).trans x3⟩
set_option maxHeartbeats 1600000 in
set_option maxRecDepth 1000000 in
theorem Kill_ok (h : St w ρ u j wb mb s m) (f : Wf s m) {i : Nat} (h1 : 1 ≤ i) (hi : i < s.atts.length) (hfr : m.free = true) (hlog : (m.log.length + 1) * 56 ≤ 140737488355328) :
    Calls Tryz.prog 139 #[.pointer (some ⟨wb, 0, none⟩), .int .i64 (i : Int)] w fun e w' => e = .returned (.tuple #[.bool (decide ((ca m.cells (s.att i).status).2 = 1)), .int .i64 0]) ∧ ∃ ρ', St w' ρ' u j wb mb s (m.swap (s.att i).status 1 3) ∧ Ext (Sr u j) w w' ρ ρ' := by
  have he := end_ok h f h1 hi hfr hlog 3
  generalize (ca m.cells (s.att i).status).2 = x at *
  clear h
  go_enter Tryz.func139, Tryz.ntmps139
  go_wp2_with (go_at_call 140; refine he.mono ?_; clear he; rintro e w2 ⟨rfl, h2⟩)
  go_ret2
  exact ⟨rfl, h2⟩
set_option maxHeartbeats 1600000 in
set_option maxRecDepth 1000000 in
theorem Commit_ok (h : St w ρ u j wb mb s m) (f : Wf s m) {i : Nat} (h1 : 1 ≤ i) (hi : i < s.atts.length) (hfr : m.free = true) (hlog : (m.log.length + 1) * 56 ≤ 140737488355328) :
    Calls Tryz.prog 118 #[.pointer (some ⟨wb, 0, none⟩), .int .i64 (i : Int)] w fun e w' => e = .returned (.tuple #[.bool (decide ((ca m.cells (s.att i).status).2 = 1)), .int .i64 0]) ∧ ∃ ρ', St w' ρ' u j wb mb s (m.swap (s.att i).status 1 2) ∧ Ext (Sr u j) w w' ρ ρ' := by
  have he := end_ok h f h1 hi hfr hlog 2
  generalize (ca m.cells (s.att i).status).2 = x at *
  clear h
  go_enter Tryz.func118, Tryz.ntmps118
  go_wp2_with (go_at_call 140; refine he.mono ?_; clear he; rintro e w2 ⟨rfl, h2⟩)
  go_ret2
  exact ⟨rfl, h2⟩
end
end Go.Proofs.YtgjndhbfjofkeaaGreatDoor

namespace Go.Proofs.YtgjndhbfjofkeaaGreatDoor
open Go.RowKit
section
variable {w w' : World} {ρ ρ' : Nat → Nat} {u j wb mb : Nat} {s s' : Ws} {m m' : Mm} {vo va vl vn : Value}
set_option maxHeartbeats 1600000 in
set_option maxRecDepth 1000000 in
theorem up_ok (h : St w ρ u j wb mb s m) (f : Wf s m) {i : Nat} (h1 : 1 ≤ i) (hi : i < s.atts.length) (hfr : m.free = true) (hlog : (m.log.length + 1) * 56 ≤ 140737488355328) :
    Calls Tryz.prog 180 #[.pointer (some ⟨wb, 0, none⟩), .int .i64 (i : Int), .bool true] w fun e w' => e = .returned (.tuple #[.bool (decide ((ca m.cells (s.att i).flag).2 = 0)), .int .i64 0]) ∧ ∃ ρ', St w' ρ' u j wb mb s (m.swap (s.att i).flag (0) (1)) ∧ Ext (Sr u j) w w' ρ ρ' := by
  obtain ⟨vo, va, vl, vn, hw⟩ := h.wj
  obtain ⟨ga, hga, ra, la, _, _, _, d3, d4⟩ := hw.att hi
  have ha := attempt_ok hw hi hga
  have hq := aeq ga (i * 5)
  have f0 := hw.mem
  have rw_ := hw.role
  have d0 : ((i : Int) == 0) = false := by simp; omega
  have d1 : decide ((i : Int) = 0) = false := by simp; omega
  have d2 : (i == 0) = false := by simp; omega
  have hl : ∀ (W : World) (k : Keeps (fun _ => False) w W), _ := fun W k => sswap' (h.new k).1 (f.at_ i hi).2 hfr hlog (0) (1)
  have hx : ∀ (W : World) (k : Keeps (fun _ => False) w W), _ := fun W k => (h.new k).2
  have nu0 : ¬ ρ wb = u := fun e => h.ap (by omega)
  have nu2 : ¬ ρ ga = u := fun e => h.ap (by omega)
  generalize s.att i = A at *
  generalize (ca m.cells A.flag).2 = x at *
  clear h hw
  go_enter Tryz.func180, Tryz.ntmps180
  go_wp2_with (go_at_call 35; refine ha.mono ?_; rintro e w' ⟨rfl, rfl⟩)
  have KD : Keeps (fun _ => False) w w.drew := (Keeps.refl _ w).drew
  go_region_held3 (fun w' => w'.cell? ⟨wb, 0, none⟩ = some (.pointer (some ⟨mb, 0, none⟩)) ∧ w'.cell? ⟨ga, i * 5 + 4, none⟩ = some (.int .i64 (A.flag : Int))) (go_keep) ((go_at_call 156; refine (hl _ KD).mono ?_; rintro e w3 ⟨rfl, ρ3, h3, x3, y3⟩; have q1 := y3.cell (p := ⟨wb, 0, none⟩) (KD.cell f0 (fun e => e)) nu0; have q2 := y3.cell (p := ⟨ga, i * 5 + 4, none⟩) (KD.cell d4 (fun e => e)) nu2))
  all_goals
    (try simp only [Exit.then])
    go_wp2_with fail
    go_ret2
    exact ⟨rfl, ρ3, h3, (hx _ KD).trans x3⟩
set_option maxHeartbeats 1600000 in
set_option maxRecDepth 1000000 in
theorem down_ok (h : St w ρ u j wb mb s m) (f : Wf s m) {i : Nat} (h1 : 1 ≤ i) (hi : i < s.atts.length) (hfr : m.free = true) (hlog : (m.log.length + 1) * 56 ≤ 140737488355328) :
    Calls Tryz.prog 180 #[.pointer (some ⟨wb, 0, none⟩), .int .i64 (i : Int), .bool false] w fun e w' => e = .returned (.tuple #[.bool (decide ((ca m.cells (s.att i).flag).2 = 1)), .int .i64 0]) ∧ ∃ ρ', St w' ρ' u j wb mb s (m.swap (s.att i).flag (1) (0)) ∧ Ext (Sr u j) w w' ρ ρ' := by
  obtain ⟨vo, va, vl, vn, hw⟩ := h.wj
  obtain ⟨ga, hga, ra, la, _, _, _, d3, d4⟩ := hw.att hi
  have ha := attempt_ok hw hi hga
  have hq := aeq ga (i * 5)
  have f0 := hw.mem
  have rw_ := hw.role
  have d0 : ((i : Int) == 0) = false := by simp; omega
  have d1 : decide ((i : Int) = 0) = false := by simp; omega
  have d2 : (i == 0) = false := by simp; omega
  have hl : ∀ (W : World) (k : Keeps (fun _ => False) w W), _ := fun W k => sswap' (h.new k).1 (f.at_ i hi).2 hfr hlog (1) (0)
  have hx : ∀ (W : World) (k : Keeps (fun _ => False) w W), _ := fun W k => (h.new k).2
  have nu0 : ¬ ρ wb = u := fun e => h.ap (by omega)
  have nu2 : ¬ ρ ga = u := fun e => h.ap (by omega)
  generalize s.att i = A at *
  generalize (ca m.cells A.flag).2 = x at *
  clear h hw
  go_enter Tryz.func180, Tryz.ntmps180
  go_wp2_with (go_at_call 35; refine ha.mono ?_; rintro e w' ⟨rfl, rfl⟩)
  have KD : Keeps (fun _ => False) w w.drew := (Keeps.refl _ w).drew
  go_region_held3 (fun w' => w'.cell? ⟨wb, 0, none⟩ = some (.pointer (some ⟨mb, 0, none⟩)) ∧ w'.cell? ⟨ga, i * 5 + 4, none⟩ = some (.int .i64 (A.flag : Int))) (go_keep) ((go_at_call 156; refine (hl _ KD).mono ?_; rintro e w3 ⟨rfl, ρ3, h3, x3, y3⟩; have q1 := y3.cell (p := ⟨wb, 0, none⟩) (KD.cell f0 (fun e => e)) nu0; have q2 := y3.cell (p := ⟨ga, i * 5 + 4, none⟩) (KD.cell d4 (fun e => e)) nu2))
  all_goals
    (try simp only [Exit.then])
    go_wp2_with fail
    go_ret2
    exact ⟨rfl, ρ3, h3, (hx _ KD).trans x3⟩
end
end Go.Proofs.YtgjndhbfjofkeaaGreatDoor

namespace Go.Proofs.YtgjndhbfjofkeaaGreatDoor
open Go.RowKit
section
variable {w w' : World} {ρ ρ' : Nat → Nat} {u j wb mb : Nat} {s s' : Ws} {m m' : Mm} {vo va vl vn : Value}
set_option maxHeartbeats 1600000 in
set_option maxRecDepth 1000000 in
theorem Acq_ok (h : St w ρ u j wb mb s m) (f : Wf s m) {o : Nat} (hi : o < s.objs.length) {x : Nat} (hx : x < s.locs.length) {y : Nat} (hy : y < s.locs.length) (hU : (s.lo y).used = false) (hC : s.isC m (s.lo y).owner = false) (hfr : m.free = true) (hlog : (m.log.length + 1) * 56 ≤ 140737488355328) :
    Calls Tryz.prog 153 #[.pointer (some ⟨wb, 0, none⟩), .int .i64 (o : Int), .int .i64 (x : Int), .int .i64 (y : Int)] w fun e w' => e = .returned (.tuple #[.bool (decide ((ca m.cells (s.ob o)).2 = (x : Int))), .int .i64 0]) ∧ ∃ ρ', St w' ρ' u j wb mb (s.use y (decide ((ca m.cells (s.ob o)).2 = (x : Int)))) (m.swap (s.ob o) (x : Int) (y : Int)) ∧ Ext (Sr u j) w w' ρ ρ' := by
  have ho := OCell_ok h hi
  obtain ⟨vo, va, vl, vn, hw⟩ := h.wj
  obtain ⟨gl, hgl, rl, ll, l0, _, _, l3⟩ := hw.loc hy
  have hn := locator_ok hw hy hgl
  have hq := leq gl (y * 4)
  have hh := locator_ok hw hx hgl
  have hq2 := leq gl (x * 4)
  rw [hU] at l3
  obtain ⟨_, _, hown⟩ := f.lo y hy
  have hc := committed_any h hown (f.at_ _ hown).1
  rw [hC] at hc
  have zl : ∀ o, w.frozen? ⟨gl, o, none⟩ = false := fun o => by
    have row := hw.pl.row
    obtain ⟨a, cap, e0, hs⟩ := hw.pl.slice
    obtain ⟨g', e1, e2, _⟩ := hs (by omega)
    rw [hgl] at e2
    cases e2
    rw [e0, e1] at row
    exact row.frozenAt o
  have f0 := hw.mem
  have hl : ∀ (W : World) (k : Keeps (fun _ => False) w W), _ := fun W k => sswap' (h.new k).1 (f.ob o hi).1 hfr hlog (x : Int) (y : Int)
  have hww : ∀ (W : World) (k : Keeps (fun _ => False) w W), _ := fun W k => hw.new h.bnd k
  have xn : ∀ (W : World) (k : Keeps (fun _ => False) w W), _ := fun W k => (h.new k).2
  have nu2 : ¬ ρ gl = u := fun e => h.ap (by omega)
  have nu1 : ∀ r, j ≤ r → r < j + 5 → ¬ r = u := fun r h1 h2 e => h.ap (by omega)
  generalize (ca m.cells (s.ob o)).2 = cv at *
  generalize s.ob o = O at *
  generalize (s.lo y).owner = OW at *
  generalize hb : decide (cv = (x : Int)) = bb at *
  clear h hw hU hb
  go_enter Tryz.func153, Tryz.ntmps153
  go_wp2_with (first | (go_at_call 142; refine ho.mono ?_; clear ho; rintro e w' ⟨rfl, rfl⟩) | (go_at_call 124; refine hn.mono ?_; clear hn; rintro e w' ⟨rfl, rfl⟩) | (go_at_call 124; refine hh.mono ?_; clear hh; rintro e w' ⟨rfl, rfl⟩) | (go_at_call 137; refine hc.mono ?_; clear hc; rintro e w2 ⟨rfl, k2⟩; replace f0 := k2.cell f0 (fun e => e)) | (go_at_call 156; refine (hl _ k2).mono ?_; clear hl; rintro e w3 ⟨rfl, ρ3, h3, x3, y3⟩; replace l3 := y3.cell (p := ⟨gl, y * 4 + 3, none⟩) (k2.cell l3 (fun e => e)) nu2; have z3 := (y3.keeps.frozen (p := ⟨gl, y * 4 + 3, none⟩) (Nat.lt_of_lt_of_le ll k2.size) nu2).trans ((k2.frozen (p := ⟨gl, y * 4 + 3, none⟩) ll (fun e => e)).trans (zl _))))
  go_ret2
  obtain ⟨f1, f2⟩ := h3.setU ((hww _ k2).ext y3 nu1) hgl hy bb
  exact ⟨rfl, ρ3, f1, (xn _ k2).trans (x3.trans f2)⟩
end
end Go.Proofs.YtgjndhbfjofkeaaGreatDoor

