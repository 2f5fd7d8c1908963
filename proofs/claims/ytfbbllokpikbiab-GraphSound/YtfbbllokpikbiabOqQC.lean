import Derived.Test.YtfbbllokpikbiabOqQB
namespace Go.Proofs.Ytfbbllokpikbiab
open Go.RowKit Go.Maps

theorem placed_mem {M : Mp} {xs : List It} (hP : Placed M xs) {k : Int} (hk : k ∈ ids xs) : ∃ p : Nat, M k = some (p : Int) ∧ p < xs.length ∧ (ia xs p).2 = k := by
  obtain ⟨x, hx, rfl⟩ := List.mem_map.1 hk
  obtain ⟨p, hp, rfl⟩ := List.getElem_of_mem hx
  exact ⟨p, by have := hP p hp; rw [ia_get hp] at this; exact this, hp, by rw [ia_get hp]⟩

/-- Where an ID stands. -/
theorem QI.look {w : World} {qb : Nat} {xs : List It} {F : List Nat} (h : QI w qb xs F) {k : Int} (hk : I64 k) :
    ∃ mv c, w.cell? ⟨qb, 3, none⟩ = some mv ∧ (Instr.lookup 91 mv (.int .i64 k) true).run Try.prog w = .ok (.tuple #[.int .i64 c, .bool (decide (k ∈ ids xs))]) w ∧
      (k ∈ ids xs → ∃ p : Nat, c = p ∧ p < xs.length ∧ (ia xs p).2 = k) := by
  rcases h with ⟨rfl, h, _⟩ | ⟨v, pm, mb, M, h, _⟩
  · refine ⟨_, 0, h.c3, ?_, fun hm => by cases hm⟩
    have := Maps.look_nil (P := Try.prog) (w := w) true keyed underMap (zeroInt w) (keyInt hk)
    simpa [ids] using this
  · obtain ⟨c, hl, hc⟩ := h.hv.side.map.look hk
    refine ⟨_, c, h.f3, ?_, fun hm => ?_⟩
    · rw [hl]
      have e : (M k != none) = decide (k ∈ ids xs) := by
        by_cases hm : k ∈ ids xs
        · obtain ⟨p, e, _⟩ := placed_mem h.placed hm
          rw [e]; simp [hm]
        · have : M k = none := Classical.byContradiction fun hn => hm (h.only k hn)
          rw [this]; simp [hm]
      rw [e]
    · obtain ⟨p, e, hp, hi⟩ := placed_mem h.placed hm
      have := hc (by rw [e]; simp)
      rw [e] at this
      exact ⟨p, (Option.some.inj this).symm, hp, hi⟩

/-- ready, whatever the queue. -/
theorem ready_any {w : World} {qb : Nat} {xs : List It} {F : List Nat} (h : QI w qb xs F) : Calls Try.prog 51 #[.pointer (some ⟨qb, 0, none⟩)] w fun e w' =>
    e = .returned (.tuple #[]) ∧ ∃ v pm mb M, QReady w' qb v pm mb M xs ∧ Keeps (fun k => k = qb) w w' ∧ (pm ∈ F ∨ w.heap.size ≤ pm) ∧ (mb ∈ F ∨ w.heap.size ≤ mb) ∧ (∀ g, v.ownBlock = some g → g ∈ F) := by
  rcases h with ⟨rfl, h, rfl⟩ | ⟨v, pm, mb, M, h, rfl⟩
  · refine (ready_fresh h).mono ?_
    rintro e w' ⟨rfl, hq, k⟩
    exact ⟨rfl, _, _, _, _, hq, k, .inr (by omega), .inr (Nat.le_refl _), fun g hg => by cases hg⟩
  · refine (ready_ready h.f3).mono ?_
    rintro e w' ⟨rfl, rfl⟩
    exact ⟨rfl, v, pm, mb, M, h, Keeps.refl _ _, .inl (by simp), .inl (by simp), fun g hg => by simp [hg]⟩

theorem nodup_snoc {xs : List It} {x : It} (h : (ids xs).Nodup) (hx : x.2 ∉ ids xs) : (ids (xs ++ [x])).Nodup := by
  unfold ids at *
  rw [List.map_append, List.nodup_append]
  exact ⟨h, by simp, fun a ha b hb => by simp at hb; rw [hb]; exact fun e => hx (e ▸ ha)⟩
theorem placed_snoc {M : Mp} {xs : List It} {x : It} (hP : Placed M xs) (hx : x.2 ∉ ids xs) : Placed (M.put x.2 xs.length) (xs ++ [x]) := by
  intro p hp
  simp at hp
  by_cases e : p = xs.length
  · have : ia (xs ++ [x]) p = x := by rw [e]; simp [ia]
    rw [this, e]; simp [Mp.put]
  · have hl : p < xs.length := by omega
    have e1 : ia (xs ++ [x]) p = ia xs p := by simp only [ia, List.getD_eq_getElem?_getD]; rw [List.getElem?_append_left hl]
    have e2 : (ia xs p).2 ≠ x.2 := fun e => hx (e ▸ mem_ids hl)
    rw [e1]; simp only [Mp.put, if_neg e2]; exact hP p hl

set_option maxHeartbeats 1600000 in
set_option maxRecDepth 1000000 in
/-- Add. -/
theorem add_any {w : World} {qb : Nat} {xs : List It} {F : List Nat} (h : QI w qb xs F) (x : It) (hx : I64 x.1 ∧ I64 x.2) :
    Calls Try.prog 43 #[.pointer (some ⟨qb, 0, none⟩), .agg #[.int .i64 x.1, .int .i64 x.2]] w fun e w' =>
      (x.2 ∈ ids xs ∧ e = .returned (.int .i64 21) ∧ QI w' qb xs F ∧ Keeps (fun _ => False) w w') ∨
      (x.2 ∉ ids xs ∧ 4096 ≤ xs.length ∧ e = .returned (.int .i64 22) ∧ QI w' qb xs F ∧ Keeps (fun _ => False) w w') ∨
      (x.2 ∉ ids xs ∧ xs.length < 4096 ∧ e = .returned (.int .i64 0) ∧ ∃ ys F', QI w' qb ys F' ∧ ys.Perm (xs ++ [x]) ∧ Left w w' F F') := by
  obtain ⟨w0, hw0⟩ : ∃ w0, w0 = w.alloc (.cells #[.int .i64 x.1, .int .i64 x.2] 76) := ⟨_, rfl⟩
  have K0 : Keeps (fun _ => False) w w0 := by rw [hw0]; exact (Keeps.refl _ w).alloc _
  have b0 : w0.cell? ⟨w.heap.size, 0, none⟩ = some (.int .i64 x.1) := by rw [hw0]; simp
  have b1 : w0.cell? ⟨w.heap.size, 1, none⟩ = some (.int .i64 x.2) := by rw [hw0]; simp
  have sz0 : w.heap.size < w0.heap.size := World.block_lt_of_cell? _ _ b0
  have lq : qb < w.heap.size := h.lt _ h.mem
  have hF : ∀ k ∈ F, k < w.heap.size := h.lt
  have h0 := h.keep K0 (fun _ _ e => e)
  have h1 := h0.keep ((Keeps.refl (fun _ => False) w0).drew) (fun _ _ e => e)
  obtain ⟨mv, c, hc3, hlook, hpos⟩ := h1.look hx.2
  have hc3' : w0.cell? ⟨qb, 3, none⟩ = some mv := hc3
  obtain ⟨a, cap, c0⟩ := h0.slice
  have hpe : ∀ w : World, (binOp .eql 72 (.pointer (some ⟨qb, 0, none⟩)) (.pointer none)).run Try.prog w = .ok (.bool false) w := fun w => by kernel_rfl
  by_cases hin : x.2 ∈ ids xs
  · have hd : decide (x.2 ∈ ids xs) = true := by simp [hin]
    rw [hd] at hlook
    have HI : Hid (x.2 ∈ ids xs) := hin
    clear hin hd
    go_enter Try.func43, Try.ntmps43
    go_wp2_with fail
    rw [← hw0]
    clear hw0
    go_region
    go_wp2_with fail
    go_ret
    exact .inl ⟨HI.out, rfl, h1, K0.drew⟩
  · have hd : decide (x.2 ∈ ids xs) = false := by simp [hin]
    rw [hd] at hlook
    have HI : Hid (x.2 ∉ ids xs) := hin
    clear hin hd
    by_cases hfull : 4096 ≤ xs.length
    · have hfI : (4096 : Int) ≤ (xs.length : Int) := by omega
      go_enter Try.func43, Try.ntmps43
      go_wp2_with fail
      rw [← hw0]
      clear hw0
      go_region
      go_wp2_with fail
      go_ret
      exact .inr (.inl ⟨HI.out, hfull, rfl, h1, K0.drew⟩)
    · have hfI : (xs.length : Int) < (4096 : Int) := by omega
      go_enter Try.func43, Try.ntmps43
      go_wp2_with fail
      rw [← hw0]
      clear hw0
      go_region
      go_wp2_with fail
      refine (ready_any h1).mono ?_
      rintro e w2 ⟨rfl, v, pm, mb, M, hq, k2, lpm, lmb, lg⟩
      have nq : ¬ w.heap.size = qb := by omega
      have B0 := k2.cell (p := ⟨w.heap.size, 0, none⟩) b0 nq
      have B1 := k2.cell (p := ⟨w.heap.size, 1, none⟩) b1 nq
      have hMx : M x.2 = none := Classical.byContradiction fun hn => HI.out (hq.only _ hn)
      have hnx : nx M xs.length x.2 = xs.length + 1 := nx_new hMx
      clear b0 b1 hlook hc3 hc3' c0
      go_wp2_with fail
      go_region_held3 (fun w' => w'.cell? ⟨w.heap.size, 0, none⟩ = some (.int .i64 x.1) ∧ w'.cell? ⟨w.heap.size, 1, none⟩ = some (.int .i64 x.2)) (go_keep) ((go_at_call 52; refine (Q.put_any (hq.hv.new ((Keeps.refl (fun _ => False) w2).drew)) hq.full hq.heap x hx (by omega) (by rw [hnx]; unfold maxLen; omega)).mono ?_; rintro e w3 ⟨rfl, g, cap', ys, N, h3, hg, k3, m3, hh, oth⟩; have nP : ¬ Q.PT v qb mb w.heap.size := fun e => e.elim (fun e => by have := hF _ (lg _ e); omega) (fun e => e.elim (fun e => by omega) (fun e => lmb.elim (fun e' => by have := hF _ e'; omega) (fun e' => by have e'' : w0.heap.size ≤ mb := e'; omega))); have q0 := k3.cell (p := ⟨w.heap.size, 0, none⟩) B0 nP; have q1 := k3.cell (p := ⟨w.heap.size, 1, none⟩) B1 nP))
      go_wp2_with fail
      go_ret
      have hly : ys.length = xs.length + 1 := by have := m3.length; simpa using this
      have hxn := HI.out
      rw [hnx] at h3
      have hv3 := h3.hv
      rw [hly] at hv3
      have hq3 : QReady w3 qb (.slice (some ⟨g, 0, none⟩) (xs.length + 1) cap') pm mb N ys := by
        refine ⟨by rw [hly]; exact hv3, oth 3 _ (by omega) hq.f3, m3.2.1 (nodup_snoc hq.nodup hxn) (placed_snoc hq.placed hxn), fun k hk => ?_, (ids_perm m3.1).nodup_iff.2 (nodup_snoc hq.nodup hxn), hh, by omega⟩
        by_cases hm : k ∈ ids (xs ++ [x])
        · exact (ids_perm m3.1).mem_iff.2 hm
        · have hkx : k ≠ x.2 := fun e => hm (by rw [e]; simp [ids])
          have hkm : k ∉ ids xs := fun e => hm (by simp [ids] at e ⊢; exact .inl e)
          rw [m3.2.2.1 k hm] at hk
          simp only [Mp.put, if_neg hkx] at hk
          exact absurd (hq.only k hk) hkm
      have ks := k2.size
      have ks' : w0.heap.size ≤ w2.heap.size := ks
      refine .inr (.inr ⟨hxn, by omega, rfl, ys, _, .inr ⟨_, pm, mb, N, hq3, rfl⟩, m3.1, ?_, ?_⟩)
      · refine ((K0.drew.mono (fun _ _ e => e.elim)).trans' k2 (U := fun k => k ∈ F) (fun _ _ e => e) (fun _ _ e => by rw [e]; exact h.mem)).trans' ((Keeps.refl _ w2).drew.trans k3) (fun _ _ e => e) (fun i hi e => ?_)
        rcases e with e | e | e
        · exact lg _ e
        · rw [e]; exact h.mem
        · rw [e]; exact lmb.elim id (fun e' => by have e'' : w0.heap.size ≤ mb := e'; omega)
      · intro k hk
        simp [Value.ownBlock] at hk
        rcases hk with rfl | rfl | rfl | rfl
        · exact .inl h.mem
        · exact lpm.imp id (fun e' => by have e'' : w0.heap.size ≤ k := e'; omega)
        · exact lmb.imp id (fun e' => by have e'' : w0.heap.size ≤ k := e'; omega)
        · exact hg.imp (fun e => lg _ e) (fun e => by have e' : w2.heap.size ≤ k := e; omega)

end Go.Proofs.Ytfbbllokpikbiab
