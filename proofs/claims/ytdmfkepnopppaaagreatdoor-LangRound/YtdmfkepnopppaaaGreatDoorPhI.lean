import Derived.Test.YtdmfkepnopppaaaGreatDoorPhH
import Derived.Defers
import Derived.Recover
namespace Go.Proofs.YtdmfkepnopppaaaGreatDoor
open Go.RowKit Go.Deep Go.ChangeShapes Go.WideShapes Go.ChangeAt
attribute [local go_sem] Oper.semAt_some run_store_nf run_store_f
theorem results_cell2y {fn : Func} {p q : Tmp} {ty ty2 : TypeId} (h : fn.results = #[.cell p ty, .cell q ty2]) (tmps : Array Value) (P : Program) (w : World) {a b : Addr} {v1 v2 : Value}
    (ha : tmps[p]?.getD undef = .pointer (some a)) (hb : tmps[q]?.getD undef = .pointer (some b)) (h1 : (loadVar ty a).run P w = .ok v1 w) (h2 : (loadVar ty2 b).run P w = .ok v2 w) : (results fn tmps).run P w = .ok (.tuple #[v1, v2]) w := by
  simp only [results, h]
  simp [Sem.run_bind, Result.andThen, asAddr, ha, hb, h1, h2]
set_option maxHeartbeats 800000 in
set_option maxRecDepth 1000000 in
theorem pcatch_idle (p q : Addr) (w : World) :
    CallsD Tryz.prog 12 #[.pointer (some p), .pointer (some q)] .returning w fun e u' w' => e = .returned (.tuple #[]) ∧ u' = .returning ∧ w' = w := by
  refine callsD_of_wpS Tryz.func12 rfl fun c₀ cs hu => ?_
  apply wpS_seq
  apply wpS_region
  simp [wpOpsS, go_sem, recoverD, hu, Tryz.ntmps12, Exit.thenS]
  apply wpS_seq
  apply wpS_region
  simp [wpOpsS, go_sem, Exit.thenS]
  refine wpS_cond (t := false) (by simp [Act.eval, Array.replicate]) ?_
  simp only [Bool.false_eq_true, if_false]
  refine wpS_of_wp (wp_skip ?_)
  cases c₀
  simp_all [bodyPostS, results, Tryz.results12]
theorem join_nil {w : World} {R : Nat} {cv mv : Value} (h : CL w R [cv, mv, .slice none 0 0]) : Calls Tryz.prog 15 #[.pointer (some ⟨R, 0, none⟩)] w fun e w' => e = .returned (.tuple #[]) ∧ w' = w := by
  have c2 := h.c 2 _ rfl
  clear h
  go_enter Tryz.func15, Tryz.ntmps15
  go_wp2
  go_loop [11] (fun iv => iv = .int .i64 0) (fun _ => 1)
  case atStart => rfl
  case round =>
    subst hrel
    go_wp2
    go_end0
    exact ⟨rfl, rfl⟩
set_option maxHeartbeats 800000 in
set_option maxRecDepth 1000000 in
theorem parse_ok {w : World} {l : List Ins} (s : ByteArray) (hs : s.size ≤ 4096) (hT : PT w) (hNT : NT w) (hm : rd (lns s) 0 [] = some l) (hsz : ∀ x ∈ lns s, x.size ≤ 4096) : Calls Tryz.prog 6 #[.string s] w fun e w' => ∃ v, e = .returned (.tuple #[v, .agg #[.int .i64 0, .int .i64 0, .int .i64 0]]) ∧ w'.ownsRow w.heap.size 45 11 v l.length (icl l) ∧ Keeps (fun _ => False) w w' := by
  have hmf : ∀ (fn : Fn) (first cap : Array Value) (w : World), (Instr.makeFunc fn first cap).run Tryz.prog w = .ok (.func fn first cap) w := fun _ _ _ _ => rfl
  have hmm := @run_makeMap Tryz.prog
  have hle : decide ((4096 : Int) < (s.size : Int)) = false := by simp; omega
  have hle' : ¬ (4096 : Int) < (s.size : Int) := by omega
  obtain ⟨w0, hw0⟩ : ∃ w0, w0 = (w.alloc (.cells #[.slice none 0 0] 23)).alloc (.cells #[.int .i64 0, .int .i64 0, .int .i64 0] 26) := ⟨_, rfl⟩
  have k0 : Keeps (fun _ => False) w w0 := by rw [hw0]; exact ks2 w _ _
  have c0 : CL w0 w.heap.size [.slice none 0 0] := by rw [hw0]; exact made1 w [.slice none 0 0] 23 _ (by show 0 < 1; decide)
  have c1 : CL w0 (w.heap.size + 1) [.int .i64 0, .int .i64 0, .int .i64 0] := by rw [hw0]; exact made2 w [.int .i64 0, .int .i64 0, .int .i64 0] 26 _
  have hz0 : w0.heap.size = w.heap.size + 1 + 1 := by rw [hw0]; simp
  obtain ⟨W4, hW4⟩ : ∃ W4, W4 = (w0.alloc (.map #[] 0)).alloc (.cells #[.slice none 0 0, .map (some (w.heap.size + 1 + 1)), .slice none 0 0] 50) := ⟨_, rfl⟩
  have k4 : Keeps (fun _ => False) w0 W4 := by rw [hW4]; exact ks2 w0 _ _
  have c4 : CL W4 (w.heap.size + 1 + 1 + 1) [.slice none 0 0, .map (some (w.heap.size + 1 + 1)), .slice none 0 0] := by
    rw [hW4, ← hz0]; exact made2 w0 [.slice none 0 0, .map (some w0.heap.size), .slice none 0 0] 50 _
  have hI : RI W4 w0.heap.size (w.heap.size + 1 + 1 + 1) (.map (some (w.heap.size + 1 + 1))) (.slice none 0 0) [] := ⟨⟨.slice none 0 0, c4, World.ownsRow_nil _ _ _ _, by intro e; cases e⟩, by omega⟩
  have hRd := read_ok (w0 := w0) (w := W4) s hs (hT.keep k0) (hNT.keep k0) k4 hI hm hsz
  rw [hw0] at hW4
  have HW4 : Hid (_ = _) := hW4
  clear hW4 hw0 hI hm hsz hT hNT c4 k4
  go_enter_defers Tryz.func6, Tryz.ntmps6
  go_wp2_with fail
  rw [← HW4.out]
  clear HW4
  refine hRd.mono ?_
  clear hRd
  rintro e w5 ⟨rfl, hI5, k5⟩
  obtain ⟨⟨cv, cR, hown, hnR⟩, hbR⟩ := hI5
  obtain ⟨a, cap, rfl, _⟩ := isl_of_owns hown rfl
  have hJ := join_nil cR
  have d0 := c0.keep (by show 0 < 1; decide) k5 (fun e => e)
  have d1 := c1.keep (by show 0 < 3; decide) k5 (fun e => e)
  have K5 := k0.trans k5
  clear c0 c1 k0 k5
  have hown' : w5.ownsRow w.heap.size 45 11 (.slice a l.length cap) l.length (icl l) := by
    refine ⟨hown.1, ?_⟩
    rcases hown.2 with h | ⟨g, cp, cur, h1, h2, h3⟩
    · exact .inl h
    · exact .inr ⟨g, cp, cur, h1, by omega, h3⟩
  have ob0 : Value.ownBlock (.slice a l.length cap) ≠ some w.heap.size := fun e => by have := owns_base hown _ e; omega
  have ob1 : Value.ownBlock (.slice a l.length cap) ≠ some (w.heap.size + 1) := fun e => by have := owns_base hown _ e; omega
  have r0 := cR.c 0 _ rfl
  have y0 := d0.c 0 _ rfl
  have yz := d0.z 0 (by show 0 < 1; decide)
  have f0 := d1.c 0 _ rfl
  have f1 := d1.c 1 _ rfl
  have f2 := d1.c 2 _ rfl
  have g0 := d1.z 0 (by show 0 < 3; decide)
  have g1 := d1.z 1 (by show 1 < 3; decide)
  have g2 := d1.z 2 (by show 2 < 3; decide)
  clear hz0 hown hbR hnR
  go_wp2_with (go_at_call 15; refine hJ.mono ?_; clear hJ; rintro e w6 ⟨rfl, e6⟩; subst w6)
  have n01 : w.heap.size + 1 ≠ w.heap.size := by omega
  have n10 : w.heap.size ≠ w.heap.size + 1 := by omega
  have e0 : CL ((((w5.setCell ⟨w.heap.size, 0, none⟩ (.slice a l.length cap)).setCell ⟨w.heap.size + 1, 0, none⟩ (.int .i64 0)).setCell ⟨w.heap.size + 1, 1, none⟩ (.int .i64 0)).setCell ⟨w.heap.size + 1, 2, none⟩ (.int .i64 0)) w.heap.size [.slice a l.length cap] := (((d0.set (o := 0) (by show 0 < 1; decide) (.slice a l.length cap)).other (p := ⟨w.heap.size + 1, 0, none⟩) n01 _).other (p := ⟨w.heap.size + 1, 1, none⟩) n01 _).other (p := ⟨w.heap.size + 1, 2, none⟩) n01 _
  have e1 : CL ((((w5.setCell ⟨w.heap.size, 0, none⟩ (.slice a l.length cap)).setCell ⟨w.heap.size + 1, 0, none⟩ (.int .i64 0)).setCell ⟨w.heap.size + 1, 1, none⟩ (.int .i64 0)).setCell ⟨w.heap.size + 1, 2, none⟩ (.int .i64 0)) (w.heap.size + 1) [.int .i64 0, .int .i64 0, .int .i64 0] := (((d1.other (p := ⟨w.heap.size, 0, none⟩) n10 (.slice a l.length cap)).set (o := 0) (by show 0 < 3; decide) (.int .i64 0)).set (o := 1) (by show 1 < 3; decide) (.int .i64 0)).set (o := 2) (by show 2 < 3; decide) (.int .i64 0)
  have kk : Keeps (fun k => k = w.heap.size ∨ k = w.heap.size + 1) w5 ((((w5.setCell ⟨w.heap.size, 0, none⟩ (.slice a l.length cap)).setCell ⟨w.heap.size + 1, 0, none⟩ (.int .i64 0)).setCell ⟨w.heap.size + 1, 1, none⟩ (.int .i64 0)).setCell ⟨w.heap.size + 1, 2, none⟩ (.int .i64 0)) := ((((Keeps.refl _ w5).setCell (p := ⟨w.heap.size, 0, none⟩) (fun _ => .inl rfl) _).setCell (p := ⟨w.heap.size + 1, 0, none⟩) (fun _ => .inr rfl) _).setCell (p := ⟨w.heap.size + 1, 1, none⟩) (fun _ => .inr rfl) _).setCell (p := ⟨w.heap.size + 1, 2, none⟩) (fun _ => .inr rfl) _
  generalize ((((w5.setCell ⟨w.heap.size, 0, none⟩ (.slice a l.length cap)).setCell ⟨w.heap.size + 1, 0, none⟩ (.int .i64 0)).setCell ⟨w.heap.size + 1, 1, none⟩ (.int .i64 0)).setCell ⟨w.heap.size + 1, 2, none⟩ (.int .i64 0)) = W6 at *
  have hown6 := kk.owns hown' (fun g hg e => e.elim (fun e => ob0 (e ▸ hg)) (fun e => ob1 (e ▸ hg)))
  have K6 : Keeps (fun _ => False) w W6 := K5.trans' kk (fun _ _ e => e) (fun i hi e => by omega)
  have x0 := e0.c 0 _ rfl
  have u0 := e1.c 0 _ rfl
  have u1 := e1.c 1 _ rfl
  have u2 := e1.c 2 _ rfl
  refine leaves_cons (f := 12) (args := #[.pointer (some ⟨w.heap.size, 0, none⟩), .pointer (some ⟨w.heap.size + 1, 0, none⟩)]) (by simp) (by simp [go_sem]) ?_
  refine (pcatch_idle _ _ _).mono ?_
  rintro e u' w'' ⟨rfl, rfl, e2⟩
  subst w''
  refine ⟨.tuple #[.slice a l.length cap, .agg #[.int .i64 0, .int .i64 0, .int .i64 0]], ?_, _, rfl, hown6, K6⟩
  refine results_cell2y Tryz.results6 _ _ _ (a := ⟨w.heap.size, 0, none⟩) (b := ⟨w.heap.size + 1, 0, none⟩) rfl rfl ?_ ?_
  · go_simp
  · go_simp
end Go.Proofs.YtdmfkepnopppaaaGreatDoor
