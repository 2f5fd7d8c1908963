import Derived.Test.YtfbbllokpikbiabOqHGQ
namespace Go.Proofs.Ytfbbllokpikbiab.Q
open Go.RowKit Go.Maps

theorem results_cell1 {fn : Func} {p : Tmp} {ty : TypeId} (h : fn.results = #[.cell p ty]) (tmps : Array Value) (P : Program) (w : World) :
    (results fn tmps).run P w = ((asAddr (tmps.getD p undef)).run P w).andThen fun a w₁ => (loadVar ty a).run P w₁ := by
  simp only [results, h]
  simp [Sem.run_bind, Result.andThen]

/-- One is cut out. -/
def Cuts (xs : List It) (M : Mp) (x : It) (ys : List It) (N : Mp) : Prop :=
  (x :: ys).Perm xs ∧ ((ids xs).Nodup → Placed M xs → Placed N ys) ∧ (∀ k, k ∉ ids xs → N k = M k) ∧ (∀ k, M k ≠ none → N k ≠ none)

theorem Placed.take {M : Mp} {xs : List It} (h : Placed M xs) (n : Nat) : Placed M (xs.take n) := fun p hp => by
  simp at hp
  rw [ia_take (by omega)]; exact h p (by omega)
theorem ids_take {xs : List It} {n : Nat} {k : Int} (h : k ∈ ids (xs.take n)) : k ∈ ids xs := by
  obtain ⟨x, hx, rfl⟩ := List.mem_map.1 h
  exact List.mem_map.2 ⟨x, List.mem_of_mem_take hx, rfl⟩
theorem nodup_take {xs : List It} {n : Nat} (h : (ids xs).Nodup) : (ids (xs.take n)).Nodup := by
  unfold ids at *; rw [List.map_take]; exact h.sublist (List.take_sublist _ _)

theorem cuts_of {xs : List It} {M O N : Mp} {p : Nat} {ys : List It} (hp : p < xs.length) (h1 : Moves xs M (sw xs p (xs.length - 1)) O) (h2 : Moves ((sw xs p (xs.length - 1)).take (xs.length - 1)) O ys N) : Cuts xs M (ia xs p) ys N := by
  refine ⟨((h2.1.cons _).trans (cut_perm hp)), fun hn hP => ?_, fun k hk => ?_, fun k hk => h2.2.2.2 k (h1.2.2.2 k hk)⟩
  · exact h2.2.1 (nodup_take ((ids_perm h1.1).nodup_iff.2 hn)) (Placed.take (h1.2.1 hn hP) _)
  · rw [h2.2.2.1 k (fun hm => hk ((ids_perm h1.1).mem_iff.1 (ids_take hm))), h1.2.2.1 k hk]

section
variable {w : World} {hb g cap : Nat} {xs : List It} {pm mb s : Nat} {M : Mp}

theorem HS.capLe (h : HS w hb g cap xs pm mb s M) : xs.length ≤ cap := by
  rcases h.row.2 with ⟨h', _⟩ | ⟨g', cap', cur, h', _, _, hnc, _⟩
  · simp at h'
  · simp only [Value.slice.injEq] at h'
    omega

set_option maxHeartbeats 1600000 in
set_option maxRecDepth 1000000 in
/-- What stands at a place is taken out. -/
theorem cut_any (h : HS w hb g cap xs pm mb s M) {p : Nat} (hp : p < xs.length) (hF : Full M xs) (hH : Heap bef xs) :
    Calls Try.prog 78 #[.pointer (some ⟨hb, 0, none⟩), .int .i64 (p : Int)] w fun e w' =>
      e = .returned (.agg #[.int .i64 (ia xs p).1, .int .i64 (ia xs p).2]) ∧ ∃ ys N, HS w' hb g cap ys pm mb s N ∧ Keeps (fun k => Tch g mb k ∨ k = hb) w w' ∧ Heap bef ys ∧ Cuts xs M (ia xs p) ys N ∧ (∀ o u, 0 < o → w.cell? ⟨hb, o, none⟩ = some u → w'.cell? ⟨hb, o, none⟩ = some u) := by
  have K0 : Keeps (fun _ => False) w (w.alloc (.cells #[.int .i64 0, .int .i64 0] 76)) := (Keeps.refl _ w).alloc _
  have r0 : (w.alloc (.cells #[.int .i64 0, .int .i64 0] 76)).cell? ⟨w.heap.size, 0, none⟩ = some (.int .i64 0) := by simp
  have r1 : (w.alloc (.cells #[.int .i64 0, .int .i64 0] 76)).cell? ⟨w.heap.size, 1, none⟩ = some (.int .i64 0) := by simp
  have y0 : (w.alloc (.cells #[.int .i64 0, .int .i64 0] 76)).frozen? ⟨w.heap.size, 0, none⟩ = false := by simp
  have y1 : (w.alloc (.cells #[.int .i64 0, .int .i64 0] 76)).frozen? ⟨w.heap.size, 1, none⟩ = false := by simp
  have sz0 : (w.alloc (.cells #[.int .i64 0, .int .i64 0] 76)).heap.size = w.heap.size + 1 := by simp
  have hTn : ¬ Tch g mb w.heap.size := fun e => e.elim (fun e => by have := h.lg; omega) (fun e => by have := h.side.map.lt; omega)
  have h0 := h.new K0
  obtain ⟨m, hm⟩ : ∃ m : Nat, Hid (xs.length = m + 1) := ⟨xs.length - 1, by show _ = _; omega⟩
  have hmI : (xs.length : Int) - 1 = (m : Int) := by have := hm.out; omega
  have f0 := h0.f0
  have hsm := h.small
  have hml : m < xs.length := by have := hm.out; omega
  go_enter Try.func78, Try.ntmps78
  go_wp2_with fail
  refine (swap_any h0 (i := p) (j := m) hp hml hF).mono ?_
  rintro e w1 ⟨rfl, h1, k1⟩
  have R0 := k1.cell r0 hTn
  have R1 := k1.cell r1 hTn
  have Y0 := (k1.frozen (p := ⟨w.heap.size, 0, none⟩) (by show w.heap.size < _; omega) hTn).trans y0
  have Y1 := (k1.frozen (p := ⟨w.heap.size, 1, none⟩) (by show w.heap.size < _; omega) hTn).trans y1
  have S1 : w.heap.size + 1 ≤ w1.heap.size := by have := k1.size; omega
  have hlz : Hid ((sw xs p m).length = xs.length) := length_sw _ _ _
  have C0 := h1.c0 (i := m) (by rw [hlz.out]; exact hml)
  have C1 := h1.c1 (i := m) (by rw [hlz.out]; exact hml)
  have hx : ia (sw xs p m) m = ia xs p := by rw [ia_sw hp hml]; simp
  rw [hx] at C0 C1
  have F1 := h1.f0
  rw [hlz.out] at F1
  obtain ⟨x, hxx⟩ : ∃ x, Hid (ia xs p = x) := ⟨_, rfl⟩
  rw [hxx.out] at C0 C1
  have K2 : Keeps (fun _ => False) w1 (w1.alloc (.cells #[.int .i64 x.1, .int .i64 x.2] 76)) := (Keeps.refl _ w1).alloc _
  have h2 := h1.new K2
  have F0 := h2.f0
  rw [hlz.out] at F0
  have Z0 := h2.z0
  have B0 : (w1.alloc (.cells #[.int .i64 x.1, .int .i64 x.2] 76)).cell? ⟨w1.heap.size, 0, none⟩ = some (.int .i64 x.1) := by simp
  have B1 : (w1.alloc (.cells #[.int .i64 x.1, .int .i64 x.2] 76)).cell? ⟨w1.heap.size, 1, none⟩ = some (.int .i64 x.2) := by simp
  have R0 := K2.cell R0 (fun e => e)
  have R1 := K2.cell R1 (fun e => e)
  have Y0 := (K2.frozen (p := ⟨w.heap.size, 0, none⟩) (by show w.heap.size < _; omega) (fun e => e)).trans Y0
  have Y1 := (K2.frozen (p := ⟨w.heap.size, 1, none⟩) (by show w.heap.size < _; omega) (fun e => e)).trans Y1
  obtain ⟨h3, k3⟩ := h2.cutTo (m := m) (by rw [hlz.out]; omega)
  have hbw : ¬ w.heap.size = hb := by have := h.lh; omega
  have hbw1 : ¬ w1.heap.size = hb := by have := h1.lh; omega
  have hbw' : ¬ hb = w.heap.size := fun e => hbw e.symm
  have B0 := k3.cell B0 hbw1
  have B1 := k3.cell B1 hbw1
  have R0 := k3.cell R0 hbw
  have R1 := k3.cell R1 hbw
  have Y0 := (k3.frozen (p := ⟨w.heap.size, 0, none⟩) (by show w.heap.size < _; have := K2.size; omega) hbw).trans Y0
  have Y1 := (k3.frozen (p := ⟨w.heap.size, 1, none⟩) (by show w.heap.size < _; have := K2.size; omega) hbw).trans Y1
  have hTn1 : ¬ Tch g mb w1.heap.size := fun e => e.elim (fun e => by have := h1.lg; omega) (fun e => by have := h1.side.map.lt; omega)
  have hcap := h.capLe
  have hmc : (m : Int) ≤ (cap : Int) := by omega
  have hmI' : (m : Int) < (xs.length : Int) := by omega
  have K1 : Keeps (fun k => Tch g mb k ∨ k = hb) w _ := ((((K0.mono (fun _ _ e => e.elim)).trans k1).mono (fun _ _ e => .inl e)).trans (K2.mono (fun _ _ e => e.elim))).trans (k3.mono (fun _ _ e => .inr e))
  have nTh : ¬ Tch g mb hb := fun e => e.elim (fun e => h.gh e.symm) (fun e => h.mg.2.1 e.symm)
  have oth : Hid (∀ o u, 0 < o → w.cell? ⟨hb, o, none⟩ = some u → ((w1.alloc (.cells #[.int .i64 x.1, .int .i64 x.2] 76)).setCell ⟨hb, 0, none⟩ (.slice (some ⟨g, 0, none⟩) m cap)).cell? ⟨hb, o, none⟩ = some u) := fun o u ho hc => by
    rw [World.cell?_setCell_other _ _ _ _ (by intro e; simp at e; try omega)]
    exact K2.cell (k1.cell (K0.cell hc (fun e => e)) nTh) (fun e => e)
  have hmv := Moves.sw (M := M) (i := p) (j := m) hp hml
  rw [hx] at hmv
  have hFz := hmv.full hF
  have hl0 : Hid (m = xs.length - 1) := by show _ = _; have := hm.out; omega
  have S2 : w1.heap.size < (w1.alloc (.cells #[.int .i64 x.1, .int .i64 x.2] 76)).heap.size := by simp
  have S3 : w1.heap.size < ((w1.alloc (.cells #[.int .i64 x.1, .int .i64 x.2] 76)).setCell ⟨hb, 0, none⟩ (.slice (some ⟨g, 0, none⟩) m cap)).heap.size := by have := k3.size; omega
  have hxH : Hid (ia (sw xs p m) m = ia xs p) := hx
  clear r0 r1 y0 y1 sz0 f0 h0 K0 k1 K2 k3 hx
  by_cases hpm : p < m
  · have hpI : (p : Int) < (m : Int) := by omega
    go_wp2_with fail
    refine (settle_any h3 (p := p) (by simp [length_sw]; omega) (fun y hy => hFz y (List.mem_of_mem_take hy)) (by rw [hl0.out]; exact hH.cut_loose bef_lin hp)).mono ?_
    rintro e w4 ⟨rfl, ys, O, h4, k4, m4, hh⟩
    have b0 := k4.cell B0 hTn1
    have b1 := k4.cell B1 hTn1
    have r0 := k4.cell R0 hTn
    have r1 := k4.cell R1 hTn
    have y0 := (k4.frozen (p := ⟨w.heap.size, 0, none⟩) (by show w.heap.size < _; omega) hTn).trans Y0
    have y1 := (k4.frozen (p := ⟨w.heap.size, 1, none⟩) (by show w.heap.size < _; omega) hTn).trans Y1
    clear F0 F1 B0 B1 R0 R1 Y0 Y1 C0 C1 Z0 h3 h2 h1
    go_wp2_with fail
    (try simp only [Exit.inBlock, Exit.then])
    have kf : Keeps (fun k => k = w.heap.size) w4 ((w4.setCell ⟨w.heap.size, 0, none⟩ (.int .i64 x.1)).setCell ⟨w.heap.size, 1, none⟩ (.int .i64 x.2)) :=
      Keeps.setCell (S := fun k => k = w.heap.size) (p := ⟨w.heap.size, 1, none⟩) (Keeps.setCell (S := fun k => k = w.heap.size) (p := ⟨w.heap.size, 0, none⟩) (Keeps.refl _ w4) (fun _ => rfl) _) (fun _ => rfl) _
    have h5 := h4.keep kf hbw' (by have := h.lg; show ¬ g = _; omega) (by have := h.side.map.lt; show ¬ mb = _; omega) (by have := World.block_lt_of_cell? _ _ h.side.cell; show ¬ pm = _; have e : pm < w.heap.size := this; omega)
    refine bodyPost_ret (v := .agg #[.int .i64 x.1, .int .i64 x.2]) ?_ rfl ⟨by rw [hxx.out], ys, O, h5, (K1.trans (k4.mono (fun _ _ e => .inl e))).trans' kf (fun _ _ e => e) (fun i hi e => by omega), hh, ?_, fun o u ho hc => kf.cell (k4.cell (oth.out o u ho hc) nTh) hbw'⟩
    · rw [results_cell1 rfl]
      go_simp
    · have e := hl0.out
      rw [e] at hmv m4
      exact cuts_of hp hmv m4
  · have hpI : ¬ (p : Int) < (m : Int) := by omega
    have hpe : Hid (p = m) := by show _ = _; have := hm.out; omega
    go_wp2_with fail
    (try simp only [Exit.inBlock, Exit.then])
    generalize World.setCell (World.alloc w1 _) _ _ = w4 at h3 B0 B1 R0 R1 Y0 Y1 K1 S3 oth ⊢
    have kf : Keeps (fun k => k = w.heap.size) w4 ((w4.setCell ⟨w.heap.size, 0, none⟩ (.int .i64 x.1)).setCell ⟨w.heap.size, 1, none⟩ (.int .i64 x.2)) :=
      Keeps.setCell (S := fun k => k = w.heap.size) (p := ⟨w.heap.size, 1, none⟩) (Keeps.setCell (S := fun k => k = w.heap.size) (p := ⟨w.heap.size, 0, none⟩) (Keeps.refl _ w4) (fun _ => rfl) _) (fun _ => rfl) _
    have h5 := h3.keep kf hbw' (by have := h.lg; show ¬ g = _; omega) (by have := h.side.map.lt; show ¬ mb = _; omega) (by have := World.block_lt_of_cell? _ _ h.side.cell; show ¬ pm = _; have e : pm < w.heap.size := this; omega)
    have e := hl0.out
    refine bodyPost_ret (v := .agg #[.int .i64 x.1, .int .i64 x.2]) ?_ rfl ⟨by rw [hxx.out], _, _, h5, K1.trans' kf (fun _ _ e => e) (fun i hi e => by omega), ?_, ?_, fun o u ho hc => kf.cell (oth.out o u ho hc) hbw'⟩
    · rw [results_cell1 rfl]
      go_simp
    · have e2 : sw xs p m = xs := by rw [← hpe.out]; exact sw_self hp
      rw [e2, e]; exact hH.cut_last
    · have hmm := Moves.refl ((sw xs p m).take m) (((M.put (ia xs m).snd ↑p).put (ia xs p).snd ↑m))
      rw [e] at hmv hmm ⊢
      exact cuts_of hp hmv hmm
end

end Go.Proofs.Ytfbbllokpikbiab.Q
