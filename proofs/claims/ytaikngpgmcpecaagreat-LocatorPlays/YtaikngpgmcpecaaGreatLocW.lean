import Derived.Test.YtaikngpgmcpecaaGreatLocP
import Derived.IntWalk
namespace Go.Proofs.YtaikngpgmcpecaaGreat
open Go.RowKit

section
variable {w w' : World} {ρ ρ' : Nat → Nat} {j wb mb : Nat} {s : Ws} {vo va vl vn : Value}
/-- The roles that a call on a world may touch. -/
def Sr (u j : Nat) (r : Nat) : Prop := r = u ∨ (j ≤ r ∧ r < j + 5)
theorem Added.ext {k r u : Nat} (h : Added w w' ρ ρ' wb k r) (hj : ρ wb = j) (hr : j ≤ r ∧ r < j + 5) : Ext (Sr u j) w w' ρ ρ' :=
  ⟨h.keeps.mono (fun i _ e => e.elim (fun e => .inr (by omega)) (fun e => .inr (by subst e; omega))), h.old, fun i hi => (h.new i hi).imp (fun e => .inr (by omega)) id⟩
theorem PJ.added {k r k2 r2 e z n : Nat} {v : Value} {xs : List Value} (a : Added w w' ρ ρ' wb k r) (h : PJ w ρ ⟨wb, k2, none⟩ r2 e z v n xs) (hk : k2 ≠ k) (hr : r2 ≠ r) (hb : ρ wb ≠ r2) : PJ w' ρ' ⟨wb, k2, none⟩ r2 e z v n xs :=
  ⟨a.far _ _ hk h.at_, a.keeps.owns h.row (fun g hg e => e.elim (fun e => hr (by rw [← h.role g hg]; exact e)) (fun e => hb (by rw [← h.role g hg, e]))), fun g hg => (a.old g (owns_lt' h.row g hg)).trans (h.role g hg)⟩
theorem WV.addO {vo' : Value} {x : Nat} (h : WV w ρ j wb mb s vo va vl vn) (a : Added w w' ρ ρ' wb 1 (j + 1)) (p : PJ w' ρ' ⟨wb, 1, none⟩ (j + 1) 3 1 vo' (s.objs ++ [x]).length (fl oc (s.objs ++ [x]))) : WV w' ρ' j wb mb { s with objs := s.objs ++ [x] } vo' va vl vn :=
  have hr := h.role
  ⟨(a.old wb h.lt).trans hr, a.far _ _ (by omega) h.mem, fun o ho => (a.fz o).trans (h.z o ho), p, h.pa.added a (by omega) (by omega) (by omega), h.pl.added a (by omega) (by omega) (by omega), h.pv.added a (by omega) (by omega) (by omega)⟩
theorem WV.addA {va' : Value} {x : At} (h : WV w ρ j wb mb s vo va vl vn) (a : Added w w' ρ ρ' wb 2 (j + 2)) (p : PJ w' ρ' ⟨wb, 2, none⟩ (j + 2) 99 5 va' (s.atts ++ [x]).length (fl ac (s.atts ++ [x]))) : WV w' ρ' j wb mb { s with atts := s.atts ++ [x] } vo va' vl vn :=
  have hr := h.role
  ⟨(a.old wb h.lt).trans hr, a.far _ _ (by omega) h.mem, fun o ho => (a.fz o).trans (h.z o ho), h.po.added a (by omega) (by omega) (by omega), p, h.pl.added a (by omega) (by omega) (by omega), h.pv.added a (by omega) (by omega) (by omega)⟩
theorem WV.addL {vl' : Value} {x : Lo} (h : WV w ρ j wb mb s vo va vl vn) (a : Added w w' ρ ρ' wb 3 (j + 3)) (p : PJ w' ρ' ⟨wb, 3, none⟩ (j + 3) 105 4 vl' (s.locs ++ [x]).length (fl lc (s.locs ++ [x]))) : WV w' ρ' j wb mb { s with locs := s.locs ++ [x] } vo va vl' vn :=
  have hr := h.role
  ⟨(a.old wb h.lt).trans hr, a.far _ _ (by omega) h.mem, fun o ho => (a.fz o).trans (h.z o ho), h.po.added a (by omega) (by omega) (by omega), h.pa.added a (by omega) (by omega) (by omega), p, h.pv.added a (by omega) (by omega) (by omega)⟩
theorem WV.addV {vn' : Value} {x : Vl} (h : WV w ρ j wb mb s vo va vl vn) (a : Added w w' ρ ρ' wb 4 (j + 4)) (p : PJ w' ρ' ⟨wb, 4, none⟩ (j + 4) 37 3 vn' (s.vals ++ [x]).length (fl vc3 (s.vals ++ [x]))) : WV w' ρ' j wb mb { s with vals := s.vals ++ [x] } vo va vl vn' :=
  have hr := h.role
  ⟨(a.old wb h.lt).trans hr, a.far _ _ (by omega) h.mem, fun o ho => (a.fz o).trans (h.z o ho), h.po.added a (by omega) (by omega) (by omega), h.pa.added a (by omega) (by omega) (by omega), h.pl.added a (by omega) (by omega) (by omega), p⟩
end

/-- A world and its memory. -/
structure St (w : World) (ρ : Nat → Nat) (u j wb mb : Nat) (s : Ws) (m : Mm) : Prop where
  bnd : Bnd w ρ
  mj : MJ w ρ u mb m
  wj : WJ w ρ j wb mb s
  u0 : u ≠ 0
  j0 : j ≠ 0
  ap : ¬ (j ≤ u ∧ u < j + 5)
section
variable {w w' : World} {ρ ρ' : Nat → Nat} {u j wb mb : Nat} {s s' : Ws} {m m' : Mm}
theorem Sr.not0 (h : St w ρ u j wb mb s m) : ¬ Sr u j 0 := fun e => e.elim (fun e => h.u0 e.symm) (fun e => h.j0 (by omega))
theorem St.new (h : St w ρ u j wb mb s m) (k : Keeps (fun _ => False) w w') : St w' ρ u j wb mb s m ∧ Ext (Sr u j) w w' ρ ρ :=
  have x := Ext.alloc (S := fun _ => False) h.bnd k
  ⟨⟨x.2, h.mj.ext x.1 (fun e => e), h.wj.ext x.1 (fun _ _ _ e => e), h.u0, h.j0, h.ap⟩, x.1.mono (fun _ e => e.elim)⟩
/-- A block without a role is written. -/
theorem St.wr (h : St w ρ u j wb mb s m) {B : Nat} (k : Keeps (fun i => i = B) w w') (hB : ρ B = 0) : St w' ρ u j wb mb s m :=
  have x : Ext (fun r => r = 0) w w' ρ ρ := ⟨k.mono (fun i _ e => by subst e; exact hB), fun _ _ => rfl, fun i hi => .inr (h.bnd i hi)⟩
  ⟨fun i hi => h.bnd i (Nat.le_trans k.size hi), h.mj.ext x (fun e => h.u0 e), h.wj.ext x (fun r h1 h2 e => h.j0 (by omega)), h.u0, h.j0, h.ap⟩
/-- The memory is asked. -/
theorem St.mem (h : St w ρ u j wb mb s m) (k : MJ w' ρ' u mb m' ∧ Ext (fun r => r = u) w w' ρ ρ' ∧ Bnd w' ρ') : St w' ρ' u j wb mb s m' ∧ Ext (Sr u j) w w' ρ ρ' :=
  ⟨⟨k.2.2, k.1, h.wj.ext k.2.1 (fun r h1 h2 e => h.ap (by omega)), h.u0, h.j0, h.ap⟩, k.2.1.mono (fun _ e => .inl e)⟩
/-- The world alone changes. -/
theorem St.own (h : St w ρ u j wb mb s m) (hw : WJ w' ρ' j wb mb s') (x : Ext (fun r => j ≤ r ∧ r < j + 5) w w' ρ ρ') (hb : Bnd w' ρ') : St w' ρ' u j wb mb s' m ∧ Ext (Sr u j) w w' ρ ρ' :=
  ⟨⟨hb, h.mj.ext x (fun e => h.ap e), hw, h.u0, h.j0, h.ap⟩, x.mono (fun _ e => .inr e)⟩
theorem Added.ext' {k r : Nat} (h : Added w w' ρ ρ' wb k r) (hj : ρ wb = j) (hr : j ≤ r ∧ r < j + 5) : Ext (fun r => j ≤ r ∧ r < j + 5) w w' ρ ρ' :=
  ⟨h.keeps.mono (fun i _ e => e.elim (fun e => by omega) (fun e => by subst e; omega)), h.old, fun i hi => (h.new i hi).imp (fun e => by omega) id⟩

theorem sbegin (h : St w ρ u j wb mb s m) (st th : Int) (hm : m.may st th = true) :
    Calls Tryz.prog 19 #[.pointer (some ⟨mb, 0, none⟩), .int .i64 st, .int .i64 th] w fun e w' => e = .returned (.int .i64 0) ∧ ∃ ρ', St w' ρ' u j wb mb s (m.begin st th) ∧ Ext (Sr u j) w w' ρ ρ' := by
  obtain ⟨F, hm1, hF⟩ := h.mj
  refine (begin_ok hm1 st th hm).mono ?_
  rintro e w' ⟨rfl, h', l⟩
  obtain ⟨ρ', k⟩ := MJ.next hF h' l
  exact ⟨rfl, ρ', h.mem k⟩
theorem smake (h : St w ρ u j wb mb s m) (x : Int) (hl : m.cells.length < 65536) :
    Calls Tryz.prog 71 #[.pointer (some ⟨mb, 0, none⟩), .int .i64 x] w fun e w' => e = .returned (.tuple #[.int .i64 m.cells.length, .int .i64 0]) ∧ ∃ ρ', St w' ρ' u j wb mb s (m.make x) ∧ Ext (Sr u j) w w' ρ ρ' := by
  obtain ⟨F, hm1, hF⟩ := h.mj
  refine (make_any hm1 x hl).mono ?_
  rintro e w' ⟨rfl, F', h', l⟩
  obtain ⟨ρ', k⟩ := MJ.next hF h' l
  exact ⟨rfl, ρ', h.mem k⟩
theorem sload (h : St w ρ u j wb mb s m) {c : Nat} (hc : c < m.cells.length) (hfr : m.free = true) (hlog : (m.log.length + 1) * 56 ≤ 140737488355328) :
    Calls Tryz.prog 81 #[.pointer (some ⟨mb, 0, none⟩), .int .i64 (c : Int)] w fun e w' =>
      e = .returned (.tuple #[.int .i64 (ca m.cells c).2, .int .i64 0]) ∧ ∃ ρ', St w' ρ' u j wb mb s (m.take 1 c (ca m.cells c).2 true) ∧ Ext (Sr u j) w w' ρ ρ' := by
  obtain ⟨F, hm1, hF⟩ := h.mj
  refine (load_ok hm1 hc hfr hlog).mono ?_
  rintro e w' ⟨rfl, F', h', l⟩
  obtain ⟨ρ', k⟩ := MJ.next hF h' l
  exact ⟨rfl, ρ', h.mem k⟩
theorem sswap (h : St w ρ u j wb mb s m) {c : Nat} (hc : c < m.cells.length) (hfr : m.free = true) (hlog : (m.log.length + 1) * 56 ≤ 140737488355328) (old next : Int) :
    Calls Tryz.prog 51 #[.pointer (some ⟨mb, 0, none⟩), .int .i64 (c : Int), .int .i64 old, .int .i64 next] w fun e w' =>
      e = .returned (.tuple #[.bool (decide ((ca m.cells c).2 = old)), .int .i64 0]) ∧ ∃ ρ', St w' ρ' u j wb mb s (m.take 2 c (if (ca m.cells c).2 = old then next else (ca m.cells c).2) (decide ((ca m.cells c).2 = old))) ∧ Ext (Sr u j) w w' ρ ρ' := by
  obtain ⟨F, hm1, hF⟩ := h.mj
  refine (swap_ok hm1 hc hfr hlog old next).mono ?_
  rintro e w' ⟨rfl, F', h', l⟩
  obtain ⟨ρ', k⟩ := MJ.next hF h' l
  exact ⟨rfl, ρ', h.mem k⟩
theorem speek (h : St w ρ u j wb mb s m) {c : Nat} (hc : c < m.cells.length) :
    Calls Tryz.prog 90 #[.pointer (some ⟨mb, 0, none⟩), .int .i64 (c : Int)] w fun e w' => e = .returned (.tuple #[.int .i64 (ca m.cells c).2, .int .i64 0]) ∧ w = w' := by
  obtain ⟨F, hm1, _⟩ := h.mj
  exact (peek_any hm1 hc).mono (fun _ _ e => ⟨e.1, e.2.symm⟩)
theorem ssize (h : St w ρ u j wb mb s m) :
    Calls Tryz.prog 11 #[.pointer (some ⟨mb, 0, none⟩)] w fun e w' => e = .returned (.int .i64 m.cells.length) ∧ w = w' := by
  obtain ⟨F, hm1, _⟩ := h.mj
  exact (size_any hm1).mono (fun _ _ e => ⟨e.1, e.2.symm⟩)

set_option maxHeartbeats 800000 in
set_option maxRecDepth 1000000 in
theorem room_any (h : St w ρ u j wb mb s m) {c : Int} (hc : 0 ≤ c ∧ c ≤ 65536) :
    Calls Tryz.prog 37 #[.pointer (some ⟨wb, 0, none⟩), .int .i64 c] w fun e w' => e = .returned (.bool (decide ((m.cells.length : Int) ≤ 65536 - c))) ∧ w = w' := by
  have hs := ssize h
  obtain ⟨vo, va, vl, vn, hw⟩ := h.wj
  have hp := peq mb
  have f0 := hw.mem
  clear h hw
  go_enter Tryz.func37, Tryz.ntmps37
  go_wp2_with (go_at_call 11; refine hs.mono ?_; rintro e w' ⟨rfl, rfl⟩)
  go_ret
  exact ⟨by simp, rfl⟩

set_option maxHeartbeats 800000 in
set_option maxRecDepth 1000000 in
theorem cell_any (h : St w ρ u j wb mb s m) (x : Int) (hl : m.cells.length < 65536) :
    Calls Tryz.prog 42 #[.pointer (some ⟨wb, 0, none⟩), .int .i64 x] w fun e w' => e = .returned (.int .i64 (m.cells.length : Int)) ∧ ∃ ρ', St w' ρ' u j wb mb s (m.make x) ∧ Ext (Sr u j) w w' ρ ρ' := by
  have hs := smake h x hl
  obtain ⟨vo, va, vl, vn, hw⟩ := h.wj
  have f0 := hw.mem
  clear h hw
  go_enter Tryz.func42, Tryz.ntmps42
  go_wp2_with (go_at_call 71; refine hs.mono ?_; rintro e w' ⟨rfl, hS⟩)
  go_ret
  exact ⟨rfl, hS⟩
end
end Go.Proofs.YtaikngpgmcpecaaGreat
