import Derived.Test.YtaikngpgmcpecaaGreatLocC
import Derived.Laws.ResultCell
namespace Go.Proofs.YtaikngpgmcpecaaGreat
open Go.RowKit

theorem weq (wb : Nat) : ∀ w : World, (binOp .eql 29 (.pointer (some ⟨wb, 0, none⟩)) (.pointer none)).run Tryz.prog w = .ok (.bool false) w := fun w => by kernel_rfl
theorem aeq (g o : Nat) : ∀ w : World, (binOp .eql 110 (.pointer (some ⟨g, o, none⟩)) (.pointer none)).run Tryz.prog w = .ok (.bool false) w := fun w => by kernel_rfl
theorem aeq0 : ∀ w : World, (binOp .eql 110 (.pointer none) (.pointer none)).run Tryz.prog w = .ok (.bool true) w := fun w => by kernel_rfl
theorem leq (g o : Nat) : ∀ w : World, (binOp .eql 106 (.pointer (some ⟨g, o, none⟩)) (.pointer none)).run Tryz.prog w = .ok (.bool false) w := fun w => by kernel_rfl
theorem leq0 : ∀ w : World, (binOp .eql 106 (.pointer none) (.pointer none)).run Tryz.prog w = .ok (.bool true) w := fun w => by kernel_rfl
theorem veq (g o : Nat) : ∀ w : World, (binOp .eql 114 (.pointer (some ⟨g, o, none⟩)) (.pointer none)).run Tryz.prog w = .ok (.bool false) w := fun w => by kernel_rfl
theorem veq0 : ∀ w : World, (binOp .eql 114 (.pointer none) (.pointer none)).run Tryz.prog w = .ok (.bool true) w := fun w => by kernel_rfl
theorem oeq (g o : Nat) : ∀ w : World, (binOp .eql 158 (.pointer (some ⟨g, o, none⟩)) (.pointer none)).run Tryz.prog w = .ok (.bool false) w := fun w => by kernel_rfl
theorem oeq0 : ∀ w : World, (binOp .eql 158 (.pointer none) (.pointer none)).run Tryz.prog w = .ok (.bool true) w := fun w => by kernel_rfl

section
variable {w w' : World} {ρ ρ' : Nat → Nat} {u j wb mb : Nat} {s s' : Ws} {m m' : Mm} {vo va vl vn : Value}
/-- What lies in the lists. -/
theorem WV.att (h : WV w ρ j wb mb s vo va vl vn) {i : Nat} (hi : i < s.atts.length) : ∃ g, va.ownBlock = some g ∧ ρ g = j + 2 ∧ g < w.heap.size ∧ w.cell? ⟨g, i * 5, none⟩ = some (.int .i64 (s.att i).thread) ∧ w.cell? ⟨g, i * 5 + 1, none⟩ = some (.int .i64 (s.att i).stamp) ∧ w.cell? ⟨g, i * 5 + 2, none⟩ = some (.int .i64 (s.att i).prio) ∧ w.cell? ⟨g, i * 5 + 3, none⟩ = some (.int .i64 ((s.att i).status : Int)) ∧ w.cell? ⟨g, i * 5 + 4, none⟩ = some (.int .i64 ((s.att i).flag : Int)) := by
  obtain ⟨a, cap, _, hs⟩ := h.pa.slice
  obtain ⟨g, _, hg, hr⟩ := hs (by omega)
  have q : ∀ {k : Nat} {v : Value}, (ac (s.att i))[k]? = some v → w.cell? ⟨g, i * 5 + k, none⟩ = some v := fun e => pool_cell ac_len h.pa hg (getD_get (d := at0) hi) e
  exact ⟨g, hg, hr, owns_lt' h.pa.row g hg, q (k := 0) rfl, q (k := 1) rfl, q (k := 2) rfl, q (k := 3) rfl, q (k := 4) rfl⟩
theorem WV.loc (h : WV w ρ j wb mb s vo va vl vn) {i : Nat} (hi : i < s.locs.length) : ∃ g, vl.ownBlock = some g ∧ ρ g = j + 3 ∧ g < w.heap.size ∧ w.cell? ⟨g, i * 4, none⟩ = some (.int .i64 ((s.lo i).owner : Int)) ∧ w.cell? ⟨g, i * 4 + 1, none⟩ = some (.int .i64 ((s.lo i).old : Int)) ∧ w.cell? ⟨g, i * 4 + 2, none⟩ = some (.int .i64 ((s.lo i).new : Int)) ∧ w.cell? ⟨g, i * 4 + 3, none⟩ = some (.bool (s.lo i).used) := by
  obtain ⟨a, cap, _, hs⟩ := h.pl.slice
  obtain ⟨g, _, hg, hr⟩ := hs (by omega)
  have q : ∀ {k : Nat} {v : Value}, (lc (s.lo i))[k]? = some v → w.cell? ⟨g, i * 4 + k, none⟩ = some v := fun e => pool_cell lc_len h.pl hg (getD_get (d := lo0) hi) e
  exact ⟨g, hg, hr, owns_lt' h.pl.row g hg, q (k := 0) rfl, q (k := 1) rfl, q (k := 2) rfl, q (k := 3) rfl⟩
theorem WV.ver (h : WV w ρ j wb mb s vo va vl vn) {i : Nat} (hi : i < s.vals.length) : ∃ g, vn.ownBlock = some g ∧ ρ g = j + 4 ∧ g < w.heap.size ∧ w.cell? ⟨g, i * 3, none⟩ = some (.int .i64 (s.vl i).num) ∧ w.cell? ⟨g, i * 3 + 1, none⟩ = some (.int .i64 (s.vl i).next) ∧ w.cell? ⟨g, i * 3 + 2, none⟩ = some (.bool (s.vl i).dead) := by
  obtain ⟨a, cap, _, hs⟩ := h.pv.slice
  obtain ⟨g, _, hg, hr⟩ := hs (by omega)
  have q : ∀ {k : Nat} {v : Value}, (vc3 (s.vl i))[k]? = some v → w.cell? ⟨g, i * 3 + k, none⟩ = some v := fun e => pool_cell vc3_len h.pv hg (getD_get (d := vl0) hi) e
  exact ⟨g, hg, hr, owns_lt' h.pv.row g hg, q (k := 0) rfl, q (k := 1) rfl, q (k := 2) rfl⟩
theorem WV.obj (h : WV w ρ j wb mb s vo va vl vn) {i : Nat} (hi : i < s.objs.length) : ∃ g, vo.ownBlock = some g ∧ ρ g = j + 1 ∧ g < w.heap.size ∧ w.cell? ⟨g, i * 1, none⟩ = some (.int .i64 (s.ob i : Int)) := by
  obtain ⟨a, cap, _, hs⟩ := h.po.slice
  obtain ⟨g, _, hg, hr⟩ := hs (by omega)
  have q : ∀ {k : Nat} {v : Value}, (oc (s.ob i))[k]? = some v → w.cell? ⟨g, i * 1 + k, none⟩ = some v := fun e => pool_cell oc_len h.po hg (getD_get (d := 0) hi) e
  exact ⟨g, hg, hr, owns_lt' h.po.row g hg, q (k := 0) rfl⟩

set_option maxHeartbeats 800000 in
set_option maxRecDepth 1000000 in
theorem attempt_ok (h : WV w ρ j wb mb s vo va vl vn) {i g : Nat} (hi : i < s.atts.length) (hg : va.ownBlock = some g) :
    Calls Tryz.prog 44 #[.pointer (some ⟨wb, 0, none⟩), .int .i64 (i : Int)] w fun e w' => e = .returned (.pointer (some ⟨g, i * 5, none⟩)) ∧ w = w' := by
  have ha := atA h.pa hi hg
  have hp := weq wb
  clear h
  go_enter Tryz.func44, Tryz.ntmps44
  go_wp2_with (go_at_call 89; refine ha.mono ?_; rintro e w' ⟨rfl, rfl⟩)
  go_ret
  exact ⟨rfl, rfl⟩
set_option maxHeartbeats 800000 in
set_option maxRecDepth 1000000 in
theorem attempt_no (h : WV w ρ j wb mb s vo va vl vn) {i : Int} (hi : i < 0 ∨ (s.atts.length : Int) ≤ i) :
    Calls Tryz.prog 44 #[.pointer (some ⟨wb, 0, none⟩), .int .i64 i] w fun e w' => e = .returned (.pointer none) ∧ w = w' := by
  have ha := atNotA h.pa hi
  have hp := weq wb
  clear h
  go_enter Tryz.func44, Tryz.ntmps44
  go_wp2_with (go_at_call 89; refine ha.mono ?_; rintro e w' ⟨rfl, rfl⟩)
  go_ret
  exact ⟨rfl, rfl⟩
set_option maxHeartbeats 800000 in
set_option maxRecDepth 1000000 in
theorem locator_ok (h : WV w ρ j wb mb s vo va vl vn) {i g : Nat} (hi : i < s.locs.length) (hg : vl.ownBlock = some g) :
    Calls Tryz.prog 48 #[.pointer (some ⟨wb, 0, none⟩), .int .i64 (i : Int)] w fun e w' => e = .returned (.pointer (some ⟨g, i * 4, none⟩)) ∧ w = w' := by
  have ha := atL h.pl hi hg
  have hp := weq wb
  clear h
  go_enter Tryz.func48, Tryz.ntmps48
  go_wp2_with (go_at_call 40; refine ha.mono ?_; rintro e w' ⟨rfl, rfl⟩)
  go_ret
  exact ⟨rfl, rfl⟩
set_option maxHeartbeats 800000 in
set_option maxRecDepth 1000000 in
theorem locator_no (h : WV w ρ j wb mb s vo va vl vn) {i : Int} (hi : i < 0 ∨ (s.locs.length : Int) ≤ i) :
    Calls Tryz.prog 48 #[.pointer (some ⟨wb, 0, none⟩), .int .i64 i] w fun e w' => e = .returned (.pointer none) ∧ w = w' := by
  have ha := atNotL h.pl hi
  have hp := weq wb
  clear h
  go_enter Tryz.func48, Tryz.ntmps48
  go_wp2_with (go_at_call 40; refine ha.mono ?_; rintro e w' ⟨rfl, rfl⟩)
  go_ret
  exact ⟨rfl, rfl⟩

/-- Whether an attempt has committed. -/
def Ws.isC (s : Ws) (m : Mm) (a : Nat) : Bool := decide ((ca m.cells (s.att a).status).2 = 2)
theorem WV.new (h : WV w ρ j wb mb s vo va vl vn) (hb : Bnd w ρ) (k : Keeps (fun _ => False) w w') : WV w' ρ j wb mb s vo va vl vn := h.ext (Ext.alloc (S := fun _ => False) hb k).1 (fun _ _ _ e => e)
set_option maxHeartbeats 1600000 in
set_option maxRecDepth 1000000 in
theorem committed_any (h : St w ρ u j wb mb s m) {i : Nat} (hi : i < s.atts.length) (hc : (s.att i).status < m.cells.length) :
    Calls Tryz.prog 46 #[.pointer (some ⟨wb, 0, none⟩), .int .i64 (i : Int)] w fun e w' => e = .returned (.bool (s.isC m i)) ∧ Keeps (fun _ => False) w w' := by
  obtain ⟨vo, va, vl, vn, hw⟩ := h.wj
  obtain ⟨g, hg, hr, hl, _, _, _, d3, _⟩ := hw.att hi
  have ha : ∀ U : KS w, _ := fun U => atA (hw.new h.bnd U.property).pa hi hg
  have hpk : ∀ U : KS w, _ := fun U => speek (h.new U.property).1 hc
  have d3' := ks_cell d3
  have f0' := ks_cell hw.mem
  have hNE : Nonempty (KS w) := ⟨⟨w, Keeps.refl _ w⟩⟩
  clear h hw d3
  show Calls _ _ _ _ fun e w' => e = .returned (.bool (decide ((ca m.cells (s.att i).status).2 = 2))) ∧ _
  generalize (ca m.cells (s.att i).status).2 = x at *
  go_enter Tryz.func46, Tryz.ntmps46
  go_wp2_with fail
  refine wp_region_ks (by kernel_rfl) (by kernel_rfl) ?_
  repeat (go_big_quiet_step (first | (go_at_call 89; refine (ha _).mono ?_; rintro e w2 ⟨rfl, rfl⟩; exact ⟨rfl, _, rfl⟩) | (go_at_call 90; refine (hpk _).mono ?_; rintro e w2 ⟨rfl, rfl⟩; exact ⟨rfl, _, rfl⟩)))
  refine wpQuiet_nil ?_
  rintro _ ⟨U, rfl⟩
  go_wp2_with fail
  go_ret
  exact ⟨rfl, U.property⟩
end
end Go.Proofs.YtaikngpgmcpecaaGreat
