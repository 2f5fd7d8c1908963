import Derived.Test.YtfbbllokpikbiabOqQA
namespace Go.Proofs.Ytfbbllokpikbiab
open Go.RowKit Go.Maps

theorem ids_cons (x : It) (xs : List It) : ids (x :: xs) = x.2 :: ids xs := rfl

/-- The entry of one that goes is struck. -/
theorem struck {xs ys : List It} {M N : Mp} {x : It} (hn : (ids xs).Nodup) (hc : Q.Cuts xs M x ys N) (hP : Placed M xs) (ho : ∀ k, M k ≠ none → k ∈ ids xs) :
    Placed (N.del x.2) ys ∧ (∀ k, N.del x.2 k ≠ none → k ∈ ids ys) ∧ (ids ys).Nodup ∧ N x.2 ≠ none := by
  have hp := ids_perm hc.1
  have hn' : (x.2 :: ids ys).Nodup := hp.nodup_iff.2 hn
  have hx : x.2 ∉ ids ys := (List.nodup_cons.1 hn').1
  have hN : x.2 ∈ ids xs := hp.mem_iff.1 (by simp [ids_cons])
  refine ⟨fun p hp => ?_, fun k hk => ?_, (List.nodup_cons.1 hn').2, hc.2.2.2 _ ?_⟩
  · have e : (ia ys p).2 ≠ x.2 := fun e => hx (e ▸ mem_ids hp)
    have := hc.2.1 hn hP p hp
    simp only [Mp.del, if_neg e]; exact this
  · by_cases e : k = x.2
    · simp [Mp.del, e] at hk
    · simp only [Mp.del, if_neg e] at hk
      have hk' : k ∈ ids xs := by
        by_cases hm : k ∈ ids xs
        · exact hm
        · rw [hc.2.2.1 k hm] at hk; exact ho k hk
      have := hp.mem_iff.2 hk'
      rw [ids_cons] at this
      exact (List.mem_cons.1 this).resolve_left e
  · obtain ⟨y, hy, e⟩ := List.mem_map.1 hN
    rw [← e]; exact hP.full y hy

set_option maxHeartbeats 1600000 in
set_option maxRecDepth 1000000 in
/-- What stands at a place is taken out of the queue. -/
theorem qcut_any {w : World} {qb : Nat} {v : Value} {pm mb : Nat} {M : Mp} {xs : List It} (h : QReady w qb v pm mb M xs) {p : Nat} (hp : p < xs.length) :
    Calls Try.prog 53 #[.pointer (some ⟨qb, 0, none⟩), .int .i64 (p : Int)] w fun e w' =>
      e = .returned (.agg #[.int .i64 (ia xs p).1, .int .i64 (ia xs p).2]) ∧ ∃ v' M' ys, QReady w' qb v' pm mb M' ys ∧ v'.ownBlock = v.ownBlock ∧ (ia xs p :: ys).Perm xs ∧ Keeps (fun k => k = qb ∨ k = mb ∨ v.ownBlock = some k) w w' := by
  obtain ⟨g, cap, rfl, hs⟩ := h.hv.hs (by omega)
  have K0 : Keeps (fun _ => False) w (w.alloc (.cells #[.int .i64 0, .int .i64 0] 76)) := (Keeps.refl _ w).alloc _
  have r0 : (w.alloc (.cells #[.int .i64 0, .int .i64 0] 76)).cell? ⟨w.heap.size, 0, none⟩ = some (.int .i64 0) := by simp
  have r1 : (w.alloc (.cells #[.int .i64 0, .int .i64 0] 76)).cell? ⟨w.heap.size, 1, none⟩ = some (.int .i64 0) := by simp
  have y0 : (w.alloc (.cells #[.int .i64 0, .int .i64 0] 76)).frozen? ⟨w.heap.size, 0, none⟩ = false := by simp
  have y1 : (w.alloc (.cells #[.int .i64 0, .int .i64 0] 76)).frozen? ⟨w.heap.size, 1, none⟩ = false := by simp
  have sz0 : (w.alloc (.cells #[.int .i64 0, .int .i64 0] 76)).heap.size = w.heap.size + 1 := by simp
  have lq := h.lq
  have lg : g < w.heap.size := owns_lt' h.hv.row g rfl
  have lm := h.hv.side.map.lt
  have lp : pm < w.heap.size := World.block_lt_of_cell? _ _ h.hv.side.cell
  have nR : ¬ (Q.Tch g mb w.heap.size ∨ w.heap.size = qb) := fun e => e.elim (fun e => e.elim (fun e => by omega) (fun e => by omega)) (fun e => by omega)
  have f3 := K0.cell h.f3 (fun e => e)
  have h0 := hs.new K0
  go_enter Try.func53, Try.ntmps53
  go_wp2_with fail
  refine (Q.cut_any h0 hp h.full h.heap).mono ?_
  rintro e w1 ⟨rfl, ys, N, h1, k1, hh, hc, oth⟩
  obtain ⟨hpl, hon, hnd, hNx⟩ := struck h.nodup hc h.placed h.only
  have x64 := h.hv.num _ (ia_mem hp)
  have R0 := k1.cell r0 nR
  have R1 := k1.cell r1 nR
  have Y0 := (k1.frozen (p := ⟨w.heap.size, 0, none⟩) (by show w.heap.size < _; omega) nR).trans y0
  have Y1 := (k1.frozen (p := ⟨w.heap.size, 1, none⟩) (by show w.heap.size < _; omega) nR).trans y1
  have F3 := oth 3 _ (by omega) f3
  have S1 : w.heap.size + 1 ≤ w1.heap.size := by have := k1.size; omega
  have K1 := (K0.mono (fun _ _ e => e.elim)).trans k1
  clear oth k1 r0 r1 y0 y1 sz0 f3 h0 K0
  obtain ⟨x, hx⟩ : ∃ x, Hid (ia xs p = x) := ⟨_, rfl⟩
  have hxp := hx.out
  rw [hxp] at hc hpl hon hNx x64 ⊢
  clear hxp
  obtain ⟨wb, hwb⟩ : ∃ wb, wb = w1.alloc (.cells #[.int .i64 x.1, .int .i64 x.2] 76) := ⟨_, rfl⟩
  have K2 : Keeps (fun _ => False) w1 wb := by rw [hwb]; exact (Keeps.refl _ w1).alloc _
  have B0 : wb.cell? ⟨w1.heap.size, 0, none⟩ = some (.int .i64 x.1) := by rw [hwb]; simp
  have B1 : wb.cell? ⟨w1.heap.size, 1, none⟩ = some (.int .i64 x.2) := by rw [hwb]; simp
  have R0 := K2.cell R0 (fun e => e)
  have R1 := K2.cell R1 (fun e => e)
  have Y0 := (K2.frozen (p := ⟨w.heap.size, 0, none⟩) (by show w.heap.size < _; omega) (fun e => e)).trans Y0
  have Y1 := (K2.frozen (p := ⟨w.heap.size, 1, none⟩) (by show w.heap.size < _; omega) (fun e => e)).trans Y1
  have F3 := K2.cell F3 (fun e => e)
  have h2 := h1.new K2
  have S2 : Hid (w1.heap.size < wb.heap.size) := by show _ < _; rw [hwb]; simp
  obtain ⟨w3, hdel, hmap, hgd⟩ := (h2.side.map.keep ((Keeps.refl (fun _ => False) wb).drew) (fun e => e)).drop (k := x.2) x64.2 hNx 0
  go_wp2_with fail
  rw [← hwb]
  clear hwb
  go_region
  have K3 : Keeps (fun k => k = mb) wb w3 := ((Keeps.refl _ wb).drew).grown hgd (fun _ _ e => by cases e; rfl)
  have nm1 : ¬ w1.heap.size = mb := by have := K1.size; omega
  have b0 := K3.cell B0 nm1
  have b1 := K3.cell B1 nm1
  have nm0 : ¬ w.heap.size = mb := by omega
  have r0 := K3.cell R0 nm0
  have r1 := K3.cell R1 nm0
  have y0 := (K3.frozen (p := ⟨w.heap.size, 0, none⟩) (by show w.heap.size < _; have := S2.out; omega) nm0).trans Y0
  have y1 := (K3.frozen (p := ⟨w.heap.size, 1, none⟩) (by show w.heap.size < _; have := S2.out; omega) nm0).trans Y1
  have nqm : ¬ qb = mb := fun e => hs.mg.2.1 e.symm
  have f3 := K3.cell F3 nqm
  have hp2 := ids_perm hc.1
  have hl2 : ys.length + 1 = xs.length := by have := hc.1.length_eq; simpa using this
  have hmap' : MapIs w3 mb ys.length (N.del x.2) := by
    have e : ys.length = xs.length - 1 := by omega
    rw [e]; exact hmap
  have side3 : Side w3 pm mb ys.length (N.del x.2) := ⟨K3.cell h2.side.cell hs.side.ne, hmap', by have := h.le; unfold maxLen; omega, hs.side.ne⟩
  have hv3 : Q.HV w3 qb (.slice (some ⟨g, 0, none⟩) ys.length cap) ys pm mb ys.length (N.del x.2) :=
    have hv2 := h2.hv
    ⟨K3.cell hv2.f0 nqm, (K3.frozen hv2.lh nqm).trans hv2.z0, K3.cell hv2.f1 nqm, K3.cell hv2.f2 nqm, K3.owns hv2.row (fun k e => by cases e; exact fun e => hs.mg.1 e.symm), side3, hv2.ne, hv2.mh, hv2.num, hv2.small⟩
  have KT : Keeps (fun k => k = qb ∨ k = mb ∨ some g = some k) w w3 := (K1.trans' K2 (U := fun k => k = qb ∨ k = mb ∨ some g = some k) (fun _ _ e => e.elim (fun e => e.elim (fun e => .inr (.inr (by rw [e]))) (fun e => .inr (.inl e))) (fun e => .inl e)) (fun _ _ e => e.elim)).trans (K3.mono (fun _ _ e => .inr (.inl e)))
  have hyx : ∀ y ∈ ys, I64 y.1 ∧ I64 y.2 := hv3.num
  clear R0 R1 Y0 Y1 B0 B1 F3 hdel hmap hmap' hgd K1 K2 K3 h1 h2 hp2
  go_wp2_with fail
  (try simp only [Exit.inBlock, Exit.then])
  have kf : Keeps (fun k => k = w.heap.size) w3 ((w3.setCell ⟨w.heap.size, 0, none⟩ (.int .i64 x.1)).setCell ⟨w.heap.size, 1, none⟩ (.int .i64 x.2)) :=
    Keeps.setCell (S := fun k => k = w.heap.size) (p := ⟨w.heap.size, 1, none⟩) (Keeps.setCell (S := fun k => k = w.heap.size) (p := ⟨w.heap.size, 0, none⟩) (Keeps.refl _ w3) (fun _ => rfl) _) (fun _ => rfl) _
  have hq3 : QReady w3 qb (.slice (some ⟨g, 0, none⟩) ys.length cap) pm mb (N.del x.2) ys := ⟨hv3, f3, hpl, hon, hnd, hh, by have := h.le; omega⟩
  have hq4 := hq3.keep kf (by show ¬ qb = _; omega) (fun k e => by cases e; show ¬ g = _; omega) (by show ¬ mb = _; omega) (by show ¬ pm = _; omega)
  refine bodyPost_ret (v := .agg #[.int .i64 x.1, .int .i64 x.2]) ?_ rfl ⟨by rw [hx.out], _, _, ys, hq4, rfl, by rw [hx.out]; exact hc.1, KT.trans' kf (fun _ _ e => e) (fun i hi e => by omega)⟩
  rw [Q.results_cell1 rfl]
  go_simp

end Go.Proofs.Ytfbbllokpikbiab
