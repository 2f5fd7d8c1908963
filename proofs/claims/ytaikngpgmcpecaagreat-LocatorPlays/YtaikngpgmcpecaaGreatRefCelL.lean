import Derived.Test.YtaikngpgmcpecaaGreatRefCelB
import Derived.Deep.AppendSrc
namespace Go.Proofs.YtaikngpgmcpecaaGreat
open Go.RowKit

/-- An append whose run is known. -/
theorem wpList_append_run {P : Program} {w : World} {ops : Array Oper} {rest : List Oper} {o : Oper} {a : Act} {Q : Exit → Act → World → Prop} (hgd : o.guard = none) (s x : Operand) (t : TypeId)
    (ho : o.op = .call { callee := .builtin .append, args := #[s, x], argTypes := #[t, t] }) (v src v' : Value) (w' : World) (hs : a.eval s = v) (hx : a.eval x = src)
    (hr : (Builtin.append_ #[t, t] o.type #[v, src]).run P w = .ok v' w') (h : wpList P ops Q rest (a.put o.dst v') w') : wpList P ops Q (o :: rest) a w :=
  wpList_plain hgd fun K hK => by
    unfold Oper.wp execOp
    simp only [ho, resolve, invoke, builtin, Sem.run_bind, Sem.run_pure, Result.andThen_ok, List.map_toArray, List.map_cons, List.map_nil, hs, hx, hr]
    exact hK _ _ h

/-- A log behind an empty list. -/
theorem append_log {w : World} {base g cap : Nat} (hown : w.ownsRow base 93 7 (.slice (some ⟨g, 0, none⟩) 0 cap) 0 []) {v : Value} {L : List Rw} (hv : w.ownsRow 0 93 7 v L.length (fl rcells L))
    (hroom : L.length * 56 ≤ 140737488355328) (hbase : base ≤ w.heap.size) :
    ∃ v' w', (Builtin.append_ #[42, 42] 42 #[.slice (some ⟨g, 0, none⟩) 0 cap, v]).run Tryz.prog w = .ok v' w' ∧ w'.ownsRow base 93 7 v' L.length (fl rcells L) ∧ Keeps (fun k => k = g) w w' := by
  obtain ⟨i0, hi0, hz0, hz1, hz2⟩ := info_parts rrowInfo
  rcases hv.2 with ⟨rfl, h0⟩ | ⟨g', cap', cur, rfl, _⟩
  · have hL : L = [] := List.eq_nil_of_length_eq_zero h0
    subst hL
    have := run_append_room_src (P := Tryz.prog) w 42 42 42 93 i0 underRRows hi0 g 0 0 cap (.slice none 0 0) 0 [] (by rw [hz1]; exact Src.ofNil w underRRows 0) (by omega) (fun j hj => by simp at hj) (fun j hj => by simp at hj)
    refine ⟨.slice (some ⟨g, 0, none⟩) 0 cap, w, ?_, by simpa [fl] using hown, Keeps.refl _ _⟩
    simpa [World.setCells] using this
  · have hnews := hv.cells rfl
    obtain ⟨v', w', hr, ho, hg, _, hloc⟩ := run_append_own_at (P := Tryz.prog) w base 42 42 93 i0 _ 7 56 underRRows hi0 hz0 hz1 hz2 rfl (by decide) _ 0 [] hown ⟨g', 0, none⟩ L.length cap' (fl rcells L) (fl_length rcells_len L) hnews (fun u hu => by
      simp only [fl, List.mem_flatMap] at hu
      obtain ⟨r, _, hr⟩ := hu
      simp [rcells] at hr
      rcases hr with rfl | rfl | rfl | rfl | rfl | rfl | rfl <;> rfl) (by unfold maxLen; omega) (by omega) hbase
    refine ⟨v', w', hr, ?_, (Keeps.refl _ w).grown hg (fun _ _ e => by cases e; rfl)⟩
    simpa using ho

set_option maxHeartbeats 1600000 in
set_option maxRecDepth 1000000 in
theorem rlog_any {w : World} {rb : Nat} {s : Mm} {B : Nat → Prop} (h : RI w rb s B) (hlog : s.log.length * 56 ≤ 140737488355328) :
    Calls Tryz.prog 9 #[.pointer (some ⟨rb, 0, none⟩)] w fun e w' => ∃ v, e = .returned v ∧ w'.ownsRow w.heap.size 93 7 v s.log.length (fl rcells s.log) ∧ Keeps (fun _ => False) w w' := by
  obtain ⟨vf, vr, vg, rvs, ρ, h, hn, hi, rfl⟩ := h
  have K0 : Keeps (fun _ => False) w (w.alloc (.cells #[] 93)) := (Keeps.refl _ w).alloc _
  have h0 := h.new K0
  have f2 := h0.f2
  have own : (w.alloc (.cells #[] 93)).ownsRow w.heap.size 93 7 (.slice (some ⟨w.heap.size, 0, none⟩) 0 0) 0 [] := World.ownsRow_made w #[] 0 (Nat.le_refl _) (by unfold maxLen; omega) rfl
  obtain ⟨v', w', hr, ho, hk⟩ := append_log own h0.rg hlog (by simp)
  have kw : Keeps (fun _ => False) w w' := K0.trans' hk (fun _ _ e => e) (fun i hi e => by omega)
  clear h h0 hn hi own hk
  go_enter Tryz.func9, Tryz.ntmps9
  go_wp2_with ((at_builtin; refine wpList_append_run rfl _ _ _ rfl _ _ v' w' rfl rfl hr ?_))
  go_ret
  exact ⟨v', rfl, ho, kw⟩
end Go.Proofs.YtaikngpgmcpecaaGreat
