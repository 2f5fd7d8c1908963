import Derived.Test.YtaikngpgmcpecaaGreatRLB
namespace Go.Proofs.YtaikngpgmcpecaaGreat
open Go.RowKit
theorem underDA : Tryz.prog.underlying 119 = some (.slice 125) := by kernel_rfl
theorem infoDA : (Tryz.prog.info? 125).map (fun i => (i.zero, i.size, i.bytes)) = some (some (.agg #[.int .i64 0, .int .i64 0, .int .i64 0, .int .i64 0, .int .i64 0]), 5, 40) := by kernel_rfl
theorem underDL : Tryz.prog.underlying 120 = some (.slice 103) := by kernel_rfl
theorem infoDL : (Tryz.prog.info? 103).map (fun i => (i.zero, i.size, i.bytes)) = some (some (.agg #[.int .i64 0, .int .i64 0, .int .i64 0]), 3, 24) := by kernel_rfl
theorem underDB : Tryz.prog.underlying 121 = some (.slice 4) := by kernel_rfl
theorem infoDB : (Tryz.prog.info? 4).map (fun i => (i.zero, i.size, i.bytes)) = some (some (.bool false), 1, 1) := by kernel_rfl
section
variable {w w' w1 W0 : World} {qb rb : Nat} {sv : Nat → Value} {σ : Nat → Nat} {B D : Nat → Prop} {s s' : Ws} {m : Mm}
theorem dsw_beg {th st pr : Int} {c : Nat} : dsw (s.beg th st pr c) = uf (dsw s) 2 ⟨125, 5, s.atts.length + 1, fl ac s.atts ++ ac ⟨th, st, pr, c, c + 1⟩⟩ := by
  funext o
  unfold uf
  by_cases e : o = 2
  · subst e
    simp [dsw, Ws.beg, fl]
  · rw [if_neg e]
    unfold dsw
    by_cases e1 : o = 1
    · rw [if_pos e1, if_pos e1]; rfl
    · rw [if_neg e1, if_neg e1, if_neg e, if_neg e]; rfl
/-- A list of the world's has grown. -/
theorem DW.grow (h : DW w qb rb sv σ B s m) {o : Nat} (o1 : 1 ≤ o) (o2 : o ≤ 5) (k0 : Keeps (fun _ => False) w W0) (hg : W0.grownBy w1 (sv o).ownBlock) {g n cap : Nat} {xs : List Value} (ho : w1.ownsRow 0 (dsw s o).ty (dsw s o).sz (.slice (some ⟨g, 0, none⟩) n cap) n xs) (hat : (sv o).ownBlock = some g ∨ W0.heap.size ≤ g) (hd : dsw s' = uf (dsw s) o ⟨(dsw s o).ty, (dsw s o).sz, n, xs⟩) :
    ∃ D', DI (w1.setCell ⟨qb, o, none⟩ (.slice (some ⟨g, 0, none⟩) n cap)) qb rb s' m D' ∧ LeftP w (w1.setCell ⟨qb, o, none⟩ (.slice (some ⟨g, 0, none⟩) n cap)) (fun k => DB qb sv k ∨ B k) D' := by
  obtain ⟨σ', d', l'⟩ := h.ds.grow o1 o2 k0 hg ho hat
  rw [← hd] at d'
  have hf0 : (w1.setCell ⟨qb, o, none⟩ (.slice (some ⟨g, 0, none⟩) n cap)).cell? ⟨qb, 0, none⟩ = some (.pointer (some ⟨rb, 0, none⟩)) := by
    have nq : ¬ (sv o).ownBlock = some qb := fun e => by have := h.ds.ps o qb o1 o2 e; rw [h.ds.pq] at this; omega
    rw [World.cell?_setCell_other _ _ _ _ (fun e => by injection e with _ e2; omega)]
    exact ((Keeps.refl _ W0).grown hg (S := fun k => (sv o).ownBlock = some k) (fun _ _ e => e)).cell (k0.cell h.f0 id) nq
  refine ⟨_, ⟨_, σ', B, ⟨hf0, d', h.ri.keep l'.keeps (fun i hi e => h.ap i e hi), fun k hk hb => ?_⟩, rfl⟩, l'.keeps.mono (fun _ _ e => .inl e), fun k hk => ?_⟩
  · exact (l'.old k hk).elim (fun e => h.ap k e hb) (fun e => by have := h.ri.lt hb; omega)
  · exact hk.elim (fun e => (l'.old k e).imp .inl id) (fun e => .inl (.inr e))
set_option maxHeartbeats 3200000 in
set_option maxRecDepth 1000000 in
theorem rcell_ok (h : DW w qb rb sv σ B s m) (x : Int) (hl : m.cells.length < 65536) : Calls Tryz.prog 54 #[.pointer (some ⟨qb, 0, none⟩), .int .i64 x] w fun e w' => e = .returned (.int .i64 (m.cells.length : Int)) ∧ ∃ B', DW w' qb rb sv σ B' s (m.make x) ∧ LeftP w w' B B' := by
  have f0 := h.f0
  have hm := rmake_any h.ri x hl
  have HW := (show Hid (DW w qb rb sv σ B s m) from h)
  generalize m.cells.length = cl at *
  clear h
  go_enter Tryz.func54, Tryz.ntmps54
  go_wp2_with ((go_at_call 72; refine hm.mono ?_; clear hm; rintro e w4 ⟨rfl, B', R4, L4⟩))
  go_ret
  exact ⟨rfl, B', HW.out.mem R4 L4, L4⟩
set_option maxHeartbeats 3200000 in
set_option maxRecDepth 1000000 in
theorem rAttempt_ok (h : DI w qb rb s m D) (th st pr : Int) (hr : s.roomA m = true) : Calls Tryz.prog 68 #[.pointer (some ⟨qb, 0, none⟩), .agg #[.int .i64 th, .int .i64 st, .int .i64 pr]] w fun e w' => e = .returned (.tuple #[.int .i64 (s.atts.length : Int), .int .i64 0]) ∧ ∃ D', DI w' qb rb (s.beg th st pr m.cells.length) ((m.make 1).make 0) D' ∧ LeftP w w' D D' := by
  obtain ⟨sv, σ, B, h, rfl⟩ := h
  simp only [Ws.roomA, Bool.and_eq_true, decide_eq_true_eq] at hr
  obtain ⟨w1, hw1⟩ : ∃ x, x = w.alloc (.cells #[.int .i64 th, .int .i64 st, .int .i64 pr] 54) := ⟨_, rfl⟩
  have k1 : Keeps (fun _ => False) w w1 := by rw [hw1]; exact (Keeps.refl _ w).alloc _
  have h1 := h.new k1
  have b0 : w1.cell? ⟨w.heap.size, 0, none⟩ = some (.int .i64 th) := by rw [hw1]; simp
  have b1 : w1.cell? ⟨w.heap.size, 1, none⟩ = some (.int .i64 st) := by rw [hw1]; simp
  have b2 : w1.cell? ⟨w.heap.size, 2, none⟩ = some (.int .i64 pr) := by rw [hw1]; simp
  have nB : ∀ {B'}, LeftP w1 w1 B B' → True := fun _ => trivial
  have f0 := h1.f0
  have f0a : ∀ ob, (w.alloc ob).cell? ⟨qb, 0, none⟩ = some (.pointer (some ⟨rb, 0, none⟩)) := fun ob => ((Keeps.refl (fun _ => False) w).alloc ob).cell h.f0 id
  obtain ⟨a2, cp2, f2, _⟩ := h1.l2
  have hsz := rsize_any h1.ri
  have hc1 := rcell_ok h1 1 (by omega)
  have lB : ∀ k, B k → k < w.heap.size := fun k hk => h.ri.lt hk
  have Hh1 := (show Hid (DW w1 qb rb sv σ B s m) from h1)
  obtain ⟨n2, hn2⟩ : ∃ x, Hid (x = s.atts.length) := ⟨_, rfl⟩
  obtain ⟨cl, hcl⟩ : ∃ x, Hid (x = m.cells.length) := ⟨_, rfl⟩
  rw [← hn2.out] at f2 ⊢
  rw [← hcl.out] at hsz hc1
  have g1 : ¬ 16384 ≤ (n2 : Int) := by rw [hn2.out]; omega
  have g1' : ¬ 16384 ≤ n2 := by omega
  have g2 : ¬ 65536 < ((cl : Int) + 2) := by rw [hcl.out]; omega
  have gw : IntKind.i64.wrap ((cl : Int) + 2) = (cl : Int) + 2 := by rw [IntKind.wrap_i64, hcl.out]; omega
  clear h h1 nB
  go_enter Tryz.func68, Tryz.ntmps68
  go_wp2_with fail
  rw [← hw1]
  refine hsz.mono ?_
  clear hsz
  rintro e w' ⟨rfl, e'⟩
  obtain rfl := e'.symm
  clear hw1 f0a
  go_wp2_with ((go_at_call 54; refine hc1.mono ?_; clear hc1; rintro e w2 ⟨rfl, B2, h2, L2⟩))
  have hc2 := rcell_ok h2 0 (by rw [Mm.len_make]; omega)
  rw [Mm.len_make, ← hcl.out] at hc2
  have c0 := L2.keeps.cell b0 (fun e => Nat.lt_irrefl _ (lB _ e))
  have c1 := L2.keeps.cell b1 (fun e => Nat.lt_irrefl _ (lB _ e))
  have c2 := L2.keeps.cell b2 (fun e => Nat.lt_irrefl _ (lB _ e))
  have HL2 := (show Hid (LeftP w1 w2 B B2) from L2)
  have lW : w.heap.size < w1.heap.size := World.block_lt_of_cell? _ _ b0
  clear h2 L2 b0 b1 b2 f0 f2
  go_wp2_with ((go_at_call 54; refine hc2.mono ?_; clear hc2; rintro e w3 ⟨rfl, B3, h3, L3⟩))
  have d0 := L3.keeps.cell c0 (fun e => (HL2.out.old _ e).elim (fun q => Nat.lt_irrefl _ (lB _ q)) (fun q => Nat.lt_irrefl _ (Nat.lt_of_lt_of_le lW q)))
  have d1 := L3.keeps.cell c1 (fun e => (HL2.out.old _ e).elim (fun q => Nat.lt_irrefl _ (lB _ q)) (fun q => Nat.lt_irrefl _ (Nat.lt_of_lt_of_le lW q)))
  have d2 := L3.keeps.cell c2 (fun e => (HL2.out.old _ e).elim (fun q => Nat.lt_irrefl _ (lB _ q)) (fun q => Nat.lt_irrefl _ (Nat.lt_of_lt_of_le lW q)))
  obtain ⟨a3, cp3, e3, f3, _⟩ := h3.fld (o := 2) (by omega) (by omega)
  have n3 : (dsw s 2).n = n2 := hn2.out.symm
  rw [n3] at e3 f3
  have O2 : Hid (w3.ownsRow 0 125 5 (.slice a3 n2 cp3) n2 (fl ac s.atts)) := by
    have := h3.ds.ow 2 (by omega) (by omega)
    rw [e3] at this
    rw [hn2.out]
    rw [hn2.out] at this
    exact this
  have z2 := h3.ds.z 2
  have lq3 := h3.ds.ltb
  have nw2 : ¬ some qb = (Value.slice a3 n2 cp3).ownBlock := fun e => by
    have := h3.ds.ps 2 qb (by omega) (by omega) (by rw [e3]; exact e.symm)
    rw [h3.ds.pq] at this
    omega
  have Hh3 := (show Hid (DW w3 qb rb sv σ B3 s ((m.make 1).make 0)) from h3)
  have HL3 := (show Hid (LeftP w1 w3 B B3) from HL2.out.trans L3)
  have He3 := (show Hid (sv 2 = .slice a3 n2 cp3) from e3)
  obtain ⟨i0, hi0, hz0, hz1, hz2⟩ := info_parts infoDA
  have h63 : n2 + 1 ≤ maxLen := by unfold maxLen; omega
  have hby : (n2 + 1) * 40 ≤ 140737488355328 := by omega
  have lw3 : w.heap.size < w3.heap.size := World.block_lt_of_cell? _ _ d0
  have n5 := World.new_ne w3 _ f3
  have n6 := World.new_ne w3 _ d0
  have q1 : ∀ ob, (w3.alloc ob).cell? ⟨qb, 2, none⟩ = some (.slice a3 n2 cp3) := fun ob => ((Keeps.refl (fun _ => False) w3).alloc ob).cell f3 id
  have ka : ∀ (ob : Obj), (w3.alloc ob).drew.cell? ⟨qb, 2, none⟩ = some (.slice a3 n2 cp3) ∧ (w3.alloc ob).drew.frozen? ⟨qb, 2, none⟩ = false := fun ob =>
    ⟨(((Keeps.refl (fun _ => False) w3).alloc ob).drew).cell f3 (fun e => e), ((((Keeps.refl (fun _ => False) w3).alloc ob).drew).frozen (p := ⟨qb, 2, none⟩) lq3 (fun e => e)).trans z2⟩
  clear h3 L3 e3 HL2 c0 c1 c2 lB hr
  go_region_law ((refine step_append_lies _ (by rfl) _ _ _ (by rfl) 0 125 i0 _ 5 40 underDA hi0 hz0 hz1 hz2 rfl (by omega) (.slice a3 n2 cp3) n2 (fl ac s.atts) (by rfl) ((O2.out.alloc _).drew) ⟨w3.heap.size, 0, none⟩ 1 1 [.int .i64 th, .int .i64 st, .int .i64 pr, .int .i64 (cl : Int), .int .i64 ((cl : Int) + 1)] (by rfl) (by rfl) (World.news_of_block (cs := #[.int .i64 th, .int .i64 st, .int .i64 pr, .int .i64 (cl : Int), .int .i64 ((cl : Int) + 1)]) (t := 125) (fr := (0, 0)) (heap_alloc_new w3 _)) (by simp [Value.oneCell']) (by omega) h63 hby (Nat.zero_le _) (w3.heap.size + 1) (by simp) ?_; intro gg cap1 w4 hown1 hgrow hat hlt1; have r1 := (hgrow.cell_far ⟨qb, 2, none⟩ (by simp; omega) nw2).trans (ka _).1; have r2 := (hgrow.frozen_far ⟨qb, 2, none⟩ (by simp; omega) nw2).trans (ka _).2))
  all_goals
    have ex : fl ac s.atts ++ [.int .i64 th, .int .i64 st, .int .i64 pr, .int .i64 (cl : Int), .int .i64 ((cl : Int) + 1)] = fl ac s.atts ++ ac ⟨th, st, pr, m.cells.length, m.cells.length + 1⟩ := by rw [hcl.out]; rfl
    obtain ⟨D', hD', lD'⟩ := Hh3.out.grow (o := 2) (s' := s.beg th st pr m.cells.length) (by omega) (by omega) (((Keeps.refl (fun _ => False) w3).alloc _).drew) (by rw [He3.out]; exact hgrow) (g := gg) (n := n2 + 1) (cap := cap1) (xs := fl ac s.atts ++ ac ⟨th, st, pr, m.cells.length, m.cells.length + 1⟩) (by rw [← ex]; exact hown1) (by rw [He3.out]; exact hat.imp id (fun e => by rw [e]; simp)) (by rw [dsw_beg, hn2.out]; rfl)
    have HD' := (show Hid (DI _ qb rb (s.beg th st pr m.cells.length) ((m.make 1).make 0) D') from hD')
    have HL := (show Hid (LeftP w _ (fun k => DB qb sv k ∨ B k) D') from ((LeftP.new k1).trans (DW.left HL3.out)).trans lD')
    have s2 : (w4.setCell ⟨qb, 2, none⟩ (.slice (some ⟨gg, 0, none⟩) (n2 + 1) cap1)).cell? ⟨qb, 2, none⟩ = some (.slice (some ⟨gg, 0, none⟩) (n2 + 1) cap1) := World.cell?_setCell_same _ _ _ r1
    clear hD' lD' hown1 hgrow hat hlt1 ka q1 O2
    (try simp only [Exit.then])
    go_wp2_with fail
    go_ret2
    exact ⟨rfl, D', HD'.out, HL.out⟩
end
end Go.Proofs.YtaikngpgmcpecaaGreat
