import Derived.Test.YtaikngpgmcpecaaGreatRefCelM
namespace Go.Proofs.YtaikngpgmcpecaaGreat
open Go.RowKit

theorem RV.put1 {w0 w4 : World} {rb gg cap1 c m gr nl : Nat} {vf vr vg ue : Value} {cs : List (Int × Int)} {rvs : List Value} {js : Nat → List Nat} {ρ : Nat → Nat} {s : Mm} (h : RV w0 rb vf vr vg cs rvs js ρ s) (hc : c < rvs.length) (hgr : vr.ownBlock = some gr) (hue : va rvs c = ue) (hnl : (js c).length = nl) {ob : Obj} (hg : (w0.alloc ob).drew.grownBy w4 ue.ownBlock)
    (ho : w4.ownsRow 0 3 1 (.slice (some ⟨gg, 0, none⟩) (nl + 1) cap1) (nl + 1) (icells (js c) ++ [.int .i64 (m : Int)])) (hat : ue.ownBlock = some gg ∨ gg = w0.heap.size + 1) :
    RV (w4.setCell ⟨gr, c, none⟩ (.slice (some ⟨gg, 0, none⟩) (nl + 1) cap1)) rb vf vr vg cs (rvs.set c (.slice (some ⟨gg, 0, none⟩) (nl + 1) cap1)) (fun k => if k = c then js c ++ [m] else js k) (role ρ gg (4 + c)) s ∧
      Keeps (fun k => ue.ownBlock = some k ∨ k = gr) w0 (w4.setCell ⟨gr, c, none⟩ (.slice (some ⟨gg, 0, none⟩) (nl + 1) cap1)) := by
  subst hue hnl
  have K : Keeps (fun _ => False) w0 (w0.alloc ob).drew := ((Keeps.refl _ w0).alloc ob).drew
  obtain ⟨h1, k1⟩ := (h.new K).growE hc hgr hg ho (hat.imp id (fun e => by rw [e]; simp))
  exact ⟨h1, (K.mono (fun _ _ e => e.elim)).trans' k1 (fun _ _ e => e) (fun _ _ e => e)⟩

theorem ix_put (L : List Rw) (r : Rw) (c : Nat) (h : r.cell = (c : Int)) : (fun k => if k = c then ix L c ++ [L.length] else ix L k) = ix (L ++ [r]) := by
  funext k
  rw [ix_snoc]
  by_cases e : k = c
  · subst e; rw [if_pos rfl, if_pos h]
  · rw [if_neg e, if_neg (by rw [h]; intro e'; exact e (by omega)), List.append_nil]

theorem put_end {w w0 W w6 : World} {ob : Obj} {rb gg cap1 c gr nl g2 cap2 : Nat} {vf vr ue : Value} {ag : Option Addr} {cg : Nat} {rvs : List Value} {ρ : Nat → Nat} {s : Mm} {st th kn sn wt : Int} {dn : Bool}
    (hc : c < s.cells.length) (hn : rvs.length = s.cells.length) (hi : ∀ c, s.cells.length ≤ c → ix s.log c = []) (K0 : Keeps (fun _ => False) w w0) (k5 : Keeps (fun k => ue.ownBlock = some k ∨ k = gr) w0 W)
    (HE : ∀ k, ue.ownBlock = some k → RB rb vf vr (.slice ag s.log.length cg) rvs k) (hgr : vr.ownBlock = some gr) (LG : ue.ownBlock = some gg ∨ w.heap.size ≤ gg) (LH : (Value.slice ag s.log.length cg).ownBlock = some g2 ∨ W.heap.size ≤ g2)
    (KA : Keeps (fun _ => False) W (W.alloc ob).drew) (k7 : Keeps (fun k => (Value.slice ag s.log.length cg).ownBlock = some k ∨ k = rb) (W.alloc ob).drew (w6.setCell ⟨rb, 2, none⟩ (.slice (some ⟨g2, 0, none⟩) (s.log.length + 1) cap2)))
    (h7 : RV (w6.setCell ⟨rb, 2, none⟩ (.slice (some ⟨g2, 0, none⟩) (s.log.length + 1) cap2)) rb vf vr (.slice (some ⟨g2, 0, none⟩) (s.log.length + 1) cap2) s.cells (rvs.set c (.slice (some ⟨gg, 0, none⟩) (nl + 1) cap1)) (fun k => if k = c then ix s.log c ++ [s.log.length] else ix s.log k) (role (role ρ gg (4 + c)) g2 3) { s with log := s.log ++ [⟨st, th, kn, (c : Int), sn, wt, dn⟩] }) :
    (Ending.returned (.tuple #[]) = .returned (.tuple #[])) ∧ ∃ B', RI ((w6.setCell ⟨rb, 2, none⟩ (.slice (some ⟨g2, 0, none⟩) (s.log.length + 1) cap2)).setCell ⟨rb, 5, none⟩ (.bool true)) rb { s with log := s.log ++ [⟨st, th, kn, (c : Int), sn, wt, dn⟩], free := false } B' ∧ LeftP w ((w6.setCell ⟨rb, 2, none⟩ (.slice (some ⟨g2, 0, none⟩) (s.log.length + 1) cap2)).setCell ⟨rb, 5, none⟩ (.bool true)) (RB rb vf vr (.slice ag s.log.length cg) rvs) B' := by
  rw [ix_put s.log ⟨st, th, kn, (c : Int), sn, wt, dn⟩ c rfl] at h7
  have h8 := h7.field (s' := { s with log := s.log ++ [⟨st, th, kn, (c : Int), sn, wt, dn⟩], free := false }) 5 (.bool true) (by omega) rfl (fun e => by omega) (fun _ => rfl) (fun e => by omega) (fun _ => rfl) (fun _ => rfl) (fun e => absurd rfl e)
  have k8 := keeps_set (w6.setCell ⟨rb, 2, none⟩ (.slice (some ⟨g2, 0, none⟩) (s.log.length + 1) cap2)) rb 5 (.bool true)
  have kk : Keeps (RB rb vf vr (.slice ag s.log.length cg) rvs) w ((w6.setCell ⟨rb, 2, none⟩ (.slice (some ⟨g2, 0, none⟩) (s.log.length + 1) cap2)).setCell ⟨rb, 5, none⟩ (.bool true)) := by
    refine (K0.mono (fun _ _ e => e.elim)).trans' (T := fun k => ue.ownBlock = some k ∨ k = gr ∨ (Value.slice ag s.log.length cg).ownBlock = some k ∨ k = rb) ?_ (fun _ _ e => e) (fun i _ e => ?_)
    · refine (k5.mono (fun _ _ e => e.elim .inl (fun e => .inr (.inl e)))).trans' ((KA.mono (fun _ _ e => e.elim)).trans' (k7.trans' k8 (fun _ _ e => e) (fun _ _ e => .inr e)) (fun _ _ e => e) (fun _ _ e => e)) (fun _ _ e => e) (fun i _ e => .inr (.inr e))
    · rcases e with e | rfl | e | rfl
      · exact HE i e
      · exact .inr (.inr (.inl hgr))
      · exact .inr (.inr (.inr (.inl e)))
      · exact .inl rfl
  refine ⟨rfl, _, ⟨vf, vr, _, _, _, h8, by rw [List.length_set]; exact hn, fun k hk => ?_, rfl⟩, kk, fun k hk => ?_⟩
  · show ix (s.log ++ [_]) k = []
    have hk' : s.cells.length ≤ k := hk
    rw [← ix_put s.log ⟨st, th, kn, (c : Int), sn, wt, dn⟩ c rfl]
    show (if k = c then _ else _) = _
    rw [if_neg (by omega)]
    exact hi k hk'
  · rcases hk with e | e | e | e | ⟨j, hj, e⟩
    · exact .inl (.inl e)
    · exact .inl (.inr (.inl e))
    · exact .inl (.inr (.inr (.inl e)))
    · have e1 : g2 = k := by simpa [Value.ownBlock] using e
      subst e1
      exact LH.elim (fun e => .inl (.inr (.inr (.inr (.inl e))))) (fun e => .inr (Nat.le_trans (Nat.le_trans K0.size k5.size) e))
    · rw [List.length_set] at hj
      rw [va_set (by omega)] at e
      by_cases e' : j = c
      · rw [if_pos e'] at e
        have e1 : gg = k := by simpa [Value.ownBlock] using e
        subst e1
        exact LG.elim (fun e => .inl (HE _ e)) .inr
      · rw [if_neg e'] at e
        exact .inl (.inr (.inr (.inr (.inr ⟨j, hj, e⟩))))

set_option maxHeartbeats 6400000 in
set_option maxRecDepth 1000000 in
/-- A row is put behind. -/
theorem rput_any {w : World} {rb : Nat} {s : Mm} {B : Nat → Prop} (h : RI w rb s B) (r : Rw) {c : Nat} (hc : c < s.cells.length) (hrc : r.cell = (c : Int)) (hlog : (s.log.length + 1) * 56 ≤ 140737488355328) :
    Calls Tryz.prog 102 #[.pointer (some ⟨rb, 0, none⟩), .agg #[.int .i64 r.step, .int .i64 r.thread, .int .i64 r.kind, .int .i64 r.cell, .int .i64 r.seen, .int .i64 r.wrote, .bool r.done]] w fun e w' =>
      e = .returned (.tuple #[]) ∧ ∃ B', RI w' rb { s with log := s.log ++ [r], free := false } B' ∧ LeftP w w' B B' := by
  obtain ⟨vf, vr, vg, rvs, ρ, h, hn, hi, rfl⟩ := h
  obtain ⟨st, th, kn, cl, sn, wt, dn⟩ := r
  obtain rfl : cl = (c : Int) := hrc
  obtain ⟨w0, hw0⟩ : ∃ w0, w0 = w.alloc (.cells #[.int .i64 st, .int .i64 th, .int .i64 kn, .int .i64 (c : Int), .int .i64 sn, .int .i64 wt, .bool dn] 93) := ⟨_, rfl⟩
  have K0 : Keeps (fun _ => False) w w0 := by rw [hw0]; exact (Keeps.refl _ w).alloc _
  have R0 : RowAt w0 w.heap.size 0 (⟨st, th, kn, (c : Int), sn, wt, dn⟩ : Rw) := by rw [hw0]; constructor <;> simp
  have h0 := h.new K0
  obtain ⟨ar, cr, hvr, hsr⟩ := owns_slice h0.rr
  obtain ⟨gr, rfl, hgr⟩ := hsr (by omega)
  obtain ⟨ag, cg, hvg, _⟩ := owns_slice h0.rg
  subst hvg
  have hcr : c < rvs.length := by omega
  have f1 := h0.f1
  have f2 := h0.f2
  have ce := h0.list hcr hgr
  have b3 := R0.r3
  simp only [Nat.zero_add] at b3
  have hcI : (c : Int) < (rvs.length : Int) := by omega
  have zr : w0.frozen? ⟨gr, c, none⟩ = false := by rw [hvr] at h0; exact h0.rr.frozenAt c
  have HO : Hid (w0.ownsRow 0 3 1 (va rvs c) (ix s.log c).length (icells (ix s.log c))) := h0.each c hcr
  have H0 : Hid (RV w0 rb vf vr (.slice ag s.log.length cg) s.cells rvs (ix s.log) ρ s) := h0
  obtain ⟨i0, hi0, hz0, hz1, hz2⟩ := info_parts intInfo
  have hix := ix_le s.log c
  have h63 : (ix s.log c).length + 1 ≤ maxLen := by unfold maxLen; omega
  have hb8 : ((ix s.log c).length + 1) * 8 ≤ 140737488355328 := by omega
  have lgr := owns_lt' h0.rr gr hgr
  have nE : ¬ (va rvs c).ownBlock = some gr := fun e => by have := h0.pe c hcr gr e; rw [h0.pr gr hgr] at this; omega
  have nB : ¬ (va rvs c).ownBlock = some rb := fun e => by have := h0.pe c hcr rb e; rw [h0.pb] at this; omega
  have nW : ¬ (va rvs c).ownBlock = some w.heap.size := fun e => Nat.lt_irrefl _ (owns_lt' (h.each c hcr) _ e)
  have nGW : ¬ gr = w.heap.size := fun e => Nat.lt_irrefl w.heap.size (e ▸ owns_lt' h.rr gr hgr)
  have lrb := h0.ltb
  have lW : w.heap.size < w0.heap.size := World.block_lt_of_cell? _ _ b3
  have HR : Hid (RowAt w0 w.heap.size 0 ⟨st, th, kn, (c : Int), sn, wt, dn⟩) := R0
  have nG : ¬ (Value.slice ag s.log.length cg).ownBlock = some rb := fun e => by have := h0.pg rb e; rw [h0.pb] at this; omega
  obtain ⟨i7, hi7, hy0, hy1, hy2⟩ := info_parts rrowInfo
  have h637 : s.log.length + 1 ≤ maxLen := by unfold maxLen; omega
  have HK0 : Hid (Keeps (fun _ => False) w w0) := K0
  have HE : Hid (∀ k, (va rvs c).ownBlock = some k → RB rb vf vr (.slice ag s.log.length cg) rvs k) := fun k e => .inr (.inr (.inr (.inr ⟨c, hcr, e⟩)))
  generalize hue : va rvs c = ue at *
  have HU : Hid (va rvs c = ue) := hue
  generalize hnl : (ix s.log c).length = nl at *
  have HL : Hid ((ix s.log c).length = nl) := hnl
  have HI : Hid (∀ c, s.cells.length ≤ c → ix s.log c = []) := hi
  have HN : Hid (rvs.length = s.cells.length) := hn
  rw [hvr] at f1
  have q1 : ∀ ob, (w0.alloc ob).cell? ⟨rb, 1, none⟩ = some (.slice (some ⟨gr, 0, none⟩) rvs.length cr) := fun ob => ((Keeps.refl (fun _ => False) w0).alloc ob).cell f1 (fun e => e)
  have q2 : ∀ ob, (w0.alloc ob).cell? ⟨gr, c, none⟩ = some ue := fun ob => ((Keeps.refl (fun _ => False) w0).alloc ob).cell ce (fun e => e)
  have q3 : ∀ ob, (w0.alloc ob).cell? ⟨w.heap.size, 3, none⟩ = some (.int .i64 (c : Int)) := fun ob => ((Keeps.refl (fun _ => False) w0).alloc ob).cell b3 (fun e => e)
  clear h h0 hi hn R0 hue hnl hix
  go_enter Tryz.func102, Tryz.ntmps102
  go_wp2_with fail
  rw [← hw0]
  clear hw0
  have ka : ∀ (ob : Obj), (w0.alloc ob).drew.cell? ⟨gr, c, none⟩ = some ue ∧ (w0.alloc ob).drew.frozen? ⟨gr, c, none⟩ = false := fun ob =>
    ⟨(((Keeps.refl (fun _ => False) w0).alloc ob).drew).cell ce (fun e => e), ((((Keeps.refl (fun _ => False) w0).alloc ob).drew).frozen (p := ⟨gr, c, none⟩) lgr (fun e => e)).trans zr⟩
  have kb : ∀ (ob : Obj), (w0.alloc ob).drew.cell? ⟨rb, 1, none⟩ = some (.slice (some ⟨gr, 0, none⟩) rvs.length cr) := fun ob => (((Keeps.refl (fun _ => False) w0).alloc ob).drew).cell f1 (fun e => e)
  have kc : ∀ (ob : Obj), (w0.alloc ob).drew.cell? ⟨w.heap.size, 3, none⟩ = some (.int .i64 (c : Int)) := fun ob => (((Keeps.refl (fun _ => False) w0).alloc ob).drew).cell b3 (fun e => e)
  have kd : ∀ (ob : Obj), (w0.alloc ob).drew.cell? ⟨rb, 2, none⟩ = some (.slice ag s.log.length cg) := fun ob => (((Keeps.refl (fun _ => False) w0).alloc ob).drew).cell f2 (fun e => e)
  have m1 : ¬ gr = rb := fun e => by have := H0.out.pr gr hgr; rw [e, H0.out.pb] at this; omega
  have m2 : ¬ rb = gr := Ne.symm m1
  have m3 : ¬ gr = w.heap.size := nGW
  have m4 : ¬ w.heap.size = gr := Ne.symm m3
  refine wp_region_held_drew (S := (fun w' => w'.cell? ⟨rb, 1, none⟩ = some (.slice (some ⟨gr, 0, none⟩) rvs.length cr) ∧ w'.cell? ⟨rb, 2, none⟩ = some (.slice ag s.log.length cg) ∧ w'.cell? ⟨w.heap.size, 3, none⟩ = some (.int .i64 (c : Int)))) (by kernel_rfl) ?_ (fun hHeld => ?_)
  · go_keep
  refine wpAnyH_take (i := 0) (v := ?_) rfl (by kernel_rfl) (by kernel_rfl) (by kernel_rfl) (fun _ _ _ h => h) (Or.inl ⟨by rfl, ?_⟩) (by assumption) ?_
  rotate_left
  · intro wx hSw; (try dsimp only at hSw); go_simp <;> with_reducible rfl
  (try simp only [Act.put]); (try simp only [List.setIfInBounds_toArray]); (repeat first | simp only [List.set_cons_succ] | simp only [List.set_cons_zero])
  refine wpAnyH_take (i := 1) (v := ?_) rfl (by kernel_rfl) (by kernel_rfl) (by kernel_rfl) (fun _ _ _ h => h) (Or.inl ⟨by rfl, ?_⟩) (by assumption) ?_
  rotate_left
  · intro wx hSw; (try dsimp only at hSw); go_simp <;> with_reducible rfl
  (try simp only [Act.put]); (try simp only [List.setIfInBounds_toArray]); (repeat first | simp only [List.set_cons_succ] | simp only [List.set_cons_zero])
  refine wpAnyH_take (i := 2) (v := ?_) rfl (by kernel_rfl) (by kernel_rfl) (by kernel_rfl) (fun _ _ _ h => h) (Or.inl ⟨by rfl, ?_⟩) (by assumption) ?_
  rotate_left
  · intro wx hSw; (try dsimp only at hSw); go_simp <;> with_reducible rfl
  (try simp only [Act.put]); (try simp only [List.setIfInBounds_toArray]); (repeat first | simp only [List.set_cons_succ] | simp only [List.set_cons_zero])
  refine wpAnyH_take (i := 3) (v := ?_) rfl (by kernel_rfl) (by kernel_rfl) (by kernel_rfl) (fun _ _ _ h => h) (Or.inl ⟨by rfl, ?_⟩) (by assumption) ?_
  rotate_left
  · intro wx hSw; (try dsimp only at hSw); go_simp <;> with_reducible rfl
  (try simp only [Act.put]); (try simp only [List.setIfInBounds_toArray]); (repeat first | simp only [List.set_cons_succ] | simp only [List.set_cons_zero])
  refine wpAnyH_take (i := 4) (v := ?_) rfl (by kernel_rfl) (by kernel_rfl) (by kernel_rfl) (fun _ _ _ h => h) (Or.inl ⟨by rfl, ?_⟩) (by assumption) ?_
  rotate_left
  · intro wx hSw; (try dsimp only at hSw); go_simp <;> with_reducible rfl
  (try simp only [Act.put]); (try simp only [List.setIfInBounds_toArray]); (repeat first | simp only [List.set_cons_succ] | simp only [List.set_cons_zero])
  refine wpAnyH_take (i := 5) (v := ?_) rfl (by kernel_rfl) (by kernel_rfl) (by kernel_rfl) (fun _ _ _ h => h) (Or.inl ⟨by rfl, ?_⟩) (by assumption) ?_
  rotate_left
  · intro wx hSw; (try dsimp only at hSw); go_simp <;> with_reducible rfl
  (try simp only [Act.put]); (try simp only [List.setIfInBounds_toArray]); (repeat first | simp only [List.set_cons_succ] | simp only [List.set_cons_zero])
  refine wpAnyH_take (i := 6) (v := ?_) rfl (by kernel_rfl) (by kernel_rfl) (by kernel_rfl) (fun _ _ _ h => h) (Or.inl ⟨by rfl, ?_⟩) (by assumption) ?_
  rotate_left
  · intro wx hSw; (try dsimp only at hSw); go_simp <;> with_reducible rfl
  (try simp only [Act.put]); (try simp only [List.setIfInBounds_toArray]); (repeat first | simp only [List.set_cons_succ] | simp only [List.set_cons_zero])
  refine wpAnyH_take (i := 7) (v := ?_) rfl (by kernel_rfl) (by kernel_rfl) (by kernel_rfl) (fun _ _ _ h => h) (Or.inl ⟨by rfl, ?_⟩) (by assumption) ?_
  rotate_left
  · intro wx hSw; (try dsimp only at hSw); go_simp <;> with_reducible rfl
  (try simp only [Act.put]); (try simp only [List.setIfInBounds_toArray]); (repeat first | simp only [List.set_cons_succ] | simp only [List.set_cons_zero])
  refine wpAnyH_take (i := 8) (v := ?_) rfl (by kernel_rfl) (by kernel_rfl) (by kernel_rfl) (fun _ _ _ h => h) (Or.inl ⟨by rfl, ?_⟩) (by assumption) ?_
  rotate_left
  · intro wx hSw; (try dsimp only at hSw); go_simp <;> with_reducible rfl
  (try simp only [Act.put]); (try simp only [List.setIfInBounds_toArray]); (repeat first | simp only [List.set_cons_succ] | simp only [List.set_cons_zero])
  refine wpAnyH_take (i := 9) (v := ?_) rfl (by kernel_rfl) (by kernel_rfl) (by kernel_rfl) (fun _ _ _ h => h) (Or.inl ⟨by rfl, ?_⟩) (by assumption) ?_
  rotate_left
  · intro wx hSw; (try dsimp only at hSw); go_simp <;> with_reducible rfl
  (try simp only [Act.put]); (try simp only [List.setIfInBounds_toArray]); (repeat first | simp only [List.set_cons_succ] | simp only [List.set_cons_zero])
  refine wpAnyH_take (i := 10) (v := ?_) rfl (by kernel_rfl) (by kernel_rfl) (by kernel_rfl) (fun _ _ _ h => h) (Or.inl ⟨by rfl, ?_⟩) (by assumption) ?_
  rotate_left
  · intro wx hSw; (try dsimp only at hSw); go_simp <;> with_reducible rfl
  (try simp only [Act.put]); (try simp only [List.setIfInBounds_toArray]); (repeat first | simp only [List.set_cons_succ] | simp only [List.set_cons_zero])
  refine wpAnyH_take (i := 11) (v := ?_) rfl (by kernel_rfl) (by kernel_rfl) (by kernel_rfl) (fun _ _ _ h => h) (Or.inl ⟨by rfl, ?_⟩) (by assumption) ?_
  rotate_left
  · intro wx hSw; (try dsimp only at hSw); go_simp <;> with_reducible rfl
  (try simp only [Act.put]); (try simp only [List.setIfInBounds_toArray]); (repeat first | simp only [List.set_cons_succ] | simp only [List.set_cons_zero])
  refine wpAnyH_take (i := 12) (v := ?_) rfl (by kernel_rfl) (by kernel_rfl) (by kernel_rfl) (fun _ _ _ h => h) (Or.inl ⟨by rfl, ?_⟩) (by assumption) ?_
  rotate_left
  · intro wx hSw; (try dsimp only at hSw); go_simp <;> with_reducible rfl
  (try simp only [Act.put]); (try simp only [List.setIfInBounds_toArray]); (repeat first | simp only [List.set_cons_succ] | simp only [List.set_cons_zero])
  refine wpAnyH_take (i := 14) (v := ?_) rfl (by kernel_rfl) (by kernel_rfl) (by kernel_rfl) (fun _ _ _ h => h) (Or.inl ⟨by rfl, ?_⟩) (by assumption) ?_
  rotate_left
  · intro wx hSw; (try dsimp only at hSw); go_simp <;> with_reducible rfl
  (try simp only [Act.put]); (try simp only [List.setIfInBounds_toArray]); (repeat first | simp only [List.set_cons_succ] | simp only [List.set_cons_zero])
  refine wpAnyH_take (i := 15) (v := ?_) rfl (by kernel_rfl) (by kernel_rfl) (by kernel_rfl) (fun _ _ _ h => h) (Or.inl ⟨by rfl, ?_⟩) (by assumption) ?_
  rotate_left
  · intro wx hSw; (try dsimp only at hSw); go_simp <;> with_reducible rfl
  (try simp only [Act.put]); (try simp only [List.setIfInBounds_toArray]); (repeat first | simp only [List.set_cons_succ] | simp only [List.set_cons_zero])
  refine wpAnyH_take (i := 16) (v := ?_) rfl (by kernel_rfl) (by kernel_rfl) (by kernel_rfl) (fun _ _ _ h => h) (Or.inl ⟨by rfl, ?_⟩) (by assumption) ?_
  rotate_left
  · intro wx hSw; (try dsimp only at hSw); go_simp <;> with_reducible rfl
  (try simp only [Act.put]); (try simp only [List.setIfInBounds_toArray]); (repeat first | simp only [List.set_cons_succ] | simp only [List.set_cons_zero])
  refine wpAnyH_take (i := 17) (v := ?_) rfl (by kernel_rfl) (by kernel_rfl) (by kernel_rfl) (fun _ _ _ h => h) (Or.inl ⟨by rfl, ?_⟩) (by assumption) ?_
  rotate_left
  · intro wx hSw; (try dsimp only at hSw); go_simp <;> with_reducible rfl
  (try simp only [Act.put]); (try simp only [List.setIfInBounds_toArray]); (repeat first | simp only [List.set_cons_succ] | simp only [List.set_cons_zero])
  refine wpAnyH_take (i := 18) (v := ?_) rfl (by kernel_rfl) (by kernel_rfl) (by kernel_rfl) (fun _ _ _ h => h) (Or.inl ⟨by rfl, ?_⟩) (by assumption) ?_
  rotate_left
  · intro wx hSw; (try dsimp only at hSw); go_simp <;> with_reducible rfl
  (try simp only [Act.put]); (try simp only [List.setIfInBounds_toArray]); (repeat first | simp only [List.set_cons_succ] | simp only [List.set_cons_zero])
  refine wpAnyH_ready (rs := [13, 19]) (by kernel_rfl) (by simp) ?_
  refine AllReadyH.cons rfl (fun K hK => ?_) (AllReadyH.cons rfl (fun K hK => ?_) AllReadyH.nil)
  ·
    go_simp
    refine hK.out _ _ ?_ (fun hHeld => ?_)
    · (try dsimp only); go_keep
    clear hK K
    (try simp only [Act.put]); (try simp only [List.setIfInBounds_toArray]); (repeat first | simp only [List.set_cons_succ] | simp only [List.set_cons_zero])
    refine wpAnyH_ready (rs := [19]) (by kernel_rfl) (by simp) ?_
    refine AllReadyH.cons rfl (fun K hK => ?_) AllReadyH.nil
    go_simp
    refine hK.out _ _ ?_ (fun hHeld => ?_)
    · (try dsimp only); go_keep
    clear hK K
    (try simp only [Act.put]); (try simp only [List.setIfInBounds_toArray]); (repeat first | simp only [List.set_cons_succ] | simp only [List.set_cons_zero])
    refine wpAnyH_ready (rs := [20]) (by kernel_rfl) (by simp) ?_
    refine AllReadyH.cons rfl (fun K hK => ?_) AllReadyH.nil
    (refine step_append_lies _ (by rfl) _ _ _ (by rfl) 0 3 i0 _ 1 8 underInts hi0 hz0 hz1 hz2 rfl (by omega) ue nl (icells (ix s.log c)) (by rfl) ((HO.out.alloc _).drew) ⟨w0.heap.size, 0, none⟩ 1 1 [.int .i64 (s.log.length : Int)] (by rfl) (by rfl) (World.news_of_block (cs := #[.int .i64 (s.log.length : Int)]) (t := 3) (fr := (0, 0)) (heap_alloc_new w0 _)) (by simp [Value.oneCell']) (by omega) h63 hb8 (Nat.zero_le _) (w0.heap.size + 1) (by simp) ?_; intro gg cap1 w4 hown1 hgrow hat hlt1; have r1 := (hgrow.cell_far ⟨gr, c, none⟩ (by simp; omega) (Ne.symm nE)).trans (ka _).1; have r2 := (hgrow.frozen_far ⟨gr, c, none⟩ (by simp; omega) (Ne.symm nE)).trans (ka _).2; have r3 := (hgrow.cell_far ⟨rb, 1, none⟩ (by simp; omega) (Ne.symm nB)).trans (kb _); have r4 := (hgrow.cell_far ⟨w.heap.size, 3, none⟩ (by simp; omega) (Ne.symm nW)).trans (kc _); have r5 := (hgrow.cell_far ⟨rb, 2, none⟩ (by simp; omega) (Ne.symm nB)).trans (kd _))
    refine hK.out _ _ ?_ (fun hHeld => ?_)
    · (try dsimp only); go_keep
    clear hK K
    (try simp only [Act.put]); (try simp only [List.setIfInBounds_toArray]); (repeat first | simp only [List.set_cons_succ] | simp only [List.set_cons_zero])
    refine wpAnyH_take (i := 21) (v := ?_) rfl (by kernel_rfl) (by kernel_rfl) (by kernel_rfl) (fun _ _ _ h => h) (Or.inl ⟨by rfl, ?_⟩) (by assumption) ?_
    rotate_left
    · intro wx hSw; (try dsimp only at hSw); go_simp <;> with_reducible rfl
    (try simp only [Act.put]); (try simp only [List.setIfInBounds_toArray]); (repeat first | simp only [List.set_cons_succ] | simp only [List.set_cons_zero])
    refine wpAnyH_ready (rs := [22]) (by kernel_rfl) (by simp) ?_
    refine AllReadyH.cons rfl (fun K hK => ?_) AllReadyH.nil
    go_simp
    refine hK.out _ _ ?_ (fun hHeld => ?_)
    · (try dsimp only); go_keep
    clear hK K
    (try simp only [Act.put]); (try simp only [List.setIfInBounds_toArray]); (repeat first | simp only [List.set_cons_succ] | simp only [List.set_cons_zero])
    refine wpAnyH_done (by kernel_rfl) ?_ _
    obtain ⟨h5, k5⟩ := H0.out.put1 hcr hgr HU.out HL.out hgrow hown1 hat
    have LG : Hid (ue.ownBlock = some gg ∨ w.heap.size ≤ gg) := hat.imp id (fun e => by have := HK0.out.size; omega)
    clear hgrow hown1 hat hlt1 r1 r2 r3 r4 r5 q1 q2 q3 ka kb kc kd hHeld
    generalize hWW : w4.setCell ⟨gr, c, none⟩ (.slice (some ⟨gg, 0, none⟩) (nl + 1) cap1) = W at h5 k5 ⊢
    clear hWW
    have F2 := h5.f2
    have F5 := h5.f5
    have Z2 := h5.z 2 (by omega)
    have Z5 := h5.z 5 (by omega)
    have L5 := h5.ltb
    have s0 := k5.cell HR.out.r0 (fun e => e.elim nW m4)
    have s1 := k5.cell HR.out.r1 (fun e => e.elim nW m4)
    have s2 := k5.cell HR.out.r2 (fun e => e.elim nW m4)
    have s3 := k5.cell HR.out.r3 (fun e => e.elim nW m4)
    have s4 := k5.cell HR.out.r4 (fun e => e.elim nW m4)
    have s5 := k5.cell HR.out.r5 (fun e => e.elim nW m4)
    have s6 := k5.cell HR.out.r6 (fun e => e.elim nW m4)
    simp only [Nat.zero_add] at s0 s1 s2 s3 s4 s5 s6
    have HO5 : Hid (W.ownsRow 0 93 7 (.slice ag s.log.length cg) s.log.length (fl rcells s.log)) := h5.rg
    have H5 : Hid (RV W rb vf vr (.slice ag s.log.length cg) s.cells (rvs.set c (.slice (some ⟨gg, 0, none⟩) (nl + 1) cap1)) (fun k => if k = c then ix s.log c ++ [s.log.length] else ix s.log k) (role ρ gg (4 + c)) s) := h5
    have K5 : Hid (Keeps (fun k => ue.ownBlock = some k ∨ k = gr) w0 W) := k5
    clear h5 k5 f1 f2 b3 ce zr
    go_wp2_with fail
    have p2 : ∀ ob, (W.alloc ob).drew.cell? ⟨rb, 2, none⟩ = some (.slice ag s.log.length cg) := fun ob => (((Keeps.refl (fun _ => False) W).alloc ob).drew).cell F2 (fun e => e)
    have p2z : ∀ ob, (W.alloc ob).drew.frozen? ⟨rb, 2, none⟩ = false := fun ob => ((((Keeps.refl (fun _ => False) W).alloc ob).drew).frozen (p := ⟨rb, 2, none⟩) L5 (fun e => e)).trans Z2
    have p5 : ∀ ob, (W.alloc ob).drew.cell? ⟨rb, 5, none⟩ = some (.bool (!s.free)) := fun ob => (((Keeps.refl (fun _ => False) W).alloc ob).drew).cell F5 (fun e => e)
    have p5z : ∀ ob, (W.alloc ob).drew.frozen? ⟨rb, 5, none⟩ = false := fun ob => ((((Keeps.refl (fun _ => False) W).alloc ob).drew).frozen (p := ⟨rb, 5, none⟩) L5 (fun e => e)).trans Z5
    go_region_law ((refine step_append_lies _ (by rfl) _ _ _ (by rfl) 0 93 i7 _ 7 56 underRRows hi7 hy0 hy1 hy2 rfl (by omega) (.slice ag s.log.length cg) s.log.length (fl rcells s.log) (by rfl) ((HO5.out.alloc _).drew) ⟨W.heap.size, 0, none⟩ 1 1 (rcells ⟨st, th, kn, (c : Int), sn, wt, dn⟩) (by rfl) (by rfl) (World.news_of_block (cs := #[.int .i64 st, .int .i64 th, .int .i64 kn, .int .i64 (c : Int), .int .i64 sn, .int .i64 wt, .bool dn]) (t := 93) (fr := (0, 0)) (heap_alloc_new W _)) (by simp [rcells, Value.oneCell']) (by omega) h637 hlog (Nat.zero_le _) (W.heap.size + 1) (by simp) ?_; intro g2 cap2 w6 hown2 hgrow2 hat2 hlt2; have t1 := (hgrow2.cell_far ⟨rb, 2, none⟩ (by simp; omega) (Ne.symm nG)).trans (p2 _); have t2 := (hgrow2.frozen_far ⟨rb, 2, none⟩ (by simp; omega) (Ne.symm nG)).trans (p2z _); have t3 := (hgrow2.cell_far ⟨rb, 5, none⟩ (by simp; omega) (Ne.symm nG)).trans (p5 _); have t4 := (hgrow2.frozen_far ⟨rb, 5, none⟩ (by simp; omega) (Ne.symm nG)).trans (p5z _)))
    all_goals
      have KA : Keeps (fun _ => False) W (W.alloc (.cells #[.int .i64 st, .int .i64 th, .int .i64 kn, .int .i64 (c : Int), .int .i64 sn, .int .i64 wt, .bool dn] 93)).drew := ((Keeps.refl _ W).alloc _).drew
      obtain ⟨h7, k7⟩ := (H5.out.new KA).growG (r := ⟨st, th, kn, (c : Int), sn, wt, dn⟩) hgrow2 hown2 (hat2.imp id (fun e => by rw [e]; simp))
      have LH : Hid ((Value.slice ag s.log.length cg).ownBlock = some g2 ∨ W.heap.size ≤ g2) := hat2.imp id (fun e => by omega)
      have u5 := h7.f5
      have u5z := h7.z 5 (by omega)
      have H7 : Hid (RV (w6.setCell ⟨rb, 2, none⟩ (.slice (some ⟨g2, 0, none⟩) (s.log.length + 1) cap2)) rb vf vr (.slice (some ⟨g2, 0, none⟩) (s.log.length + 1) cap2) s.cells (rvs.set c (.slice (some ⟨gg, 0, none⟩) (nl + 1) cap1)) (fun k => if k = c then ix s.log c ++ [s.log.length] else ix s.log k) (role (role ρ gg (4 + c)) g2 3) { s with log := s.log ++ [⟨st, th, kn, (c : Int), sn, wt, dn⟩] }) := h7
      clear h7 hgrow2 hown2 hat2 hlt2 t1 t2 t3 t4 p2 p2z p5 p5z s0 s1 s2 s3 s4 s5 s6 F2 F5 Z2 Z5
      go_wp2_with fail
      go_end0
      rw [← hvr]
      exact put_end hc HN.out HI.out HK0.out K5.out HE.out hgr LG.out LH.out KA k7 H7.out
  ·
    go_simp
    refine hK.out _ _ ?_ (fun hHeld => ?_)
    · (try dsimp only); go_keep
    clear hK K
    (try simp only [Act.put]); (try simp only [List.setIfInBounds_toArray]); (repeat first | simp only [List.set_cons_succ] | simp only [List.set_cons_zero])
    refine wpAnyH_ready (rs := [13]) (by kernel_rfl) (by simp) ?_
    refine AllReadyH.cons rfl (fun K hK => ?_) AllReadyH.nil
    go_simp
    refine hK.out _ _ ?_ (fun hHeld => ?_)
    · (try dsimp only); go_keep
    clear hK K
    (try simp only [Act.put]); (try simp only [List.setIfInBounds_toArray]); (repeat first | simp only [List.set_cons_succ] | simp only [List.set_cons_zero])
    refine wpAnyH_ready (rs := [20]) (by kernel_rfl) (by simp) ?_
    refine AllReadyH.cons rfl (fun K hK => ?_) AllReadyH.nil
    (refine step_append_lies _ (by rfl) _ _ _ (by rfl) 0 3 i0 _ 1 8 underInts hi0 hz0 hz1 hz2 rfl (by omega) ue nl (icells (ix s.log c)) (by rfl) ((HO.out.alloc _).drew) ⟨w0.heap.size, 0, none⟩ 1 1 [.int .i64 (s.log.length : Int)] (by rfl) (by rfl) (World.news_of_block (cs := #[.int .i64 (s.log.length : Int)]) (t := 3) (fr := (0, 0)) (heap_alloc_new w0 _)) (by simp [Value.oneCell']) (by omega) h63 hb8 (Nat.zero_le _) (w0.heap.size + 1) (by simp) ?_; intro gg cap1 w4 hown1 hgrow hat hlt1; have r1 := (hgrow.cell_far ⟨gr, c, none⟩ (by simp; omega) (Ne.symm nE)).trans (ka _).1; have r2 := (hgrow.frozen_far ⟨gr, c, none⟩ (by simp; omega) (Ne.symm nE)).trans (ka _).2; have r3 := (hgrow.cell_far ⟨rb, 1, none⟩ (by simp; omega) (Ne.symm nB)).trans (kb _); have r4 := (hgrow.cell_far ⟨w.heap.size, 3, none⟩ (by simp; omega) (Ne.symm nW)).trans (kc _); have r5 := (hgrow.cell_far ⟨rb, 2, none⟩ (by simp; omega) (Ne.symm nB)).trans (kd _))
    refine hK.out _ _ ?_ (fun hHeld => ?_)
    · (try dsimp only); go_keep
    clear hK K
    (try simp only [Act.put]); (try simp only [List.setIfInBounds_toArray]); (repeat first | simp only [List.set_cons_succ] | simp only [List.set_cons_zero])
    refine wpAnyH_take (i := 21) (v := ?_) rfl (by kernel_rfl) (by kernel_rfl) (by kernel_rfl) (fun _ _ _ h => h) (Or.inl ⟨by rfl, ?_⟩) (by assumption) ?_
    rotate_left
    · intro wx hSw; (try dsimp only at hSw); go_simp <;> with_reducible rfl
    (try simp only [Act.put]); (try simp only [List.setIfInBounds_toArray]); (repeat first | simp only [List.set_cons_succ] | simp only [List.set_cons_zero])
    refine wpAnyH_ready (rs := [22]) (by kernel_rfl) (by simp) ?_
    refine AllReadyH.cons rfl (fun K hK => ?_) AllReadyH.nil
    go_simp
    refine hK.out _ _ ?_ (fun hHeld => ?_)
    · (try dsimp only); go_keep
    clear hK K
    (try simp only [Act.put]); (try simp only [List.setIfInBounds_toArray]); (repeat first | simp only [List.set_cons_succ] | simp only [List.set_cons_zero])
    refine wpAnyH_done (by kernel_rfl) ?_ _
    obtain ⟨h5, k5⟩ := H0.out.put1 hcr hgr HU.out HL.out hgrow hown1 hat
    have LG : Hid (ue.ownBlock = some gg ∨ w.heap.size ≤ gg) := hat.imp id (fun e => by have := HK0.out.size; omega)
    clear hgrow hown1 hat hlt1 r1 r2 r3 r4 r5 q1 q2 q3 ka kb kc kd hHeld
    generalize hWW : w4.setCell ⟨gr, c, none⟩ (.slice (some ⟨gg, 0, none⟩) (nl + 1) cap1) = W at h5 k5 ⊢
    clear hWW
    have F2 := h5.f2
    have F5 := h5.f5
    have Z2 := h5.z 2 (by omega)
    have Z5 := h5.z 5 (by omega)
    have L5 := h5.ltb
    have s0 := k5.cell HR.out.r0 (fun e => e.elim nW m4)
    have s1 := k5.cell HR.out.r1 (fun e => e.elim nW m4)
    have s2 := k5.cell HR.out.r2 (fun e => e.elim nW m4)
    have s3 := k5.cell HR.out.r3 (fun e => e.elim nW m4)
    have s4 := k5.cell HR.out.r4 (fun e => e.elim nW m4)
    have s5 := k5.cell HR.out.r5 (fun e => e.elim nW m4)
    have s6 := k5.cell HR.out.r6 (fun e => e.elim nW m4)
    simp only [Nat.zero_add] at s0 s1 s2 s3 s4 s5 s6
    have HO5 : Hid (W.ownsRow 0 93 7 (.slice ag s.log.length cg) s.log.length (fl rcells s.log)) := h5.rg
    have H5 : Hid (RV W rb vf vr (.slice ag s.log.length cg) s.cells (rvs.set c (.slice (some ⟨gg, 0, none⟩) (nl + 1) cap1)) (fun k => if k = c then ix s.log c ++ [s.log.length] else ix s.log k) (role ρ gg (4 + c)) s) := h5
    have K5 : Hid (Keeps (fun k => ue.ownBlock = some k ∨ k = gr) w0 W) := k5
    clear h5 k5 f1 f2 b3 ce zr
    go_wp2_with fail
    have p2 : ∀ ob, (W.alloc ob).drew.cell? ⟨rb, 2, none⟩ = some (.slice ag s.log.length cg) := fun ob => (((Keeps.refl (fun _ => False) W).alloc ob).drew).cell F2 (fun e => e)
    have p2z : ∀ ob, (W.alloc ob).drew.frozen? ⟨rb, 2, none⟩ = false := fun ob => ((((Keeps.refl (fun _ => False) W).alloc ob).drew).frozen (p := ⟨rb, 2, none⟩) L5 (fun e => e)).trans Z2
    have p5 : ∀ ob, (W.alloc ob).drew.cell? ⟨rb, 5, none⟩ = some (.bool (!s.free)) := fun ob => (((Keeps.refl (fun _ => False) W).alloc ob).drew).cell F5 (fun e => e)
    have p5z : ∀ ob, (W.alloc ob).drew.frozen? ⟨rb, 5, none⟩ = false := fun ob => ((((Keeps.refl (fun _ => False) W).alloc ob).drew).frozen (p := ⟨rb, 5, none⟩) L5 (fun e => e)).trans Z5
    go_region_law ((refine step_append_lies _ (by rfl) _ _ _ (by rfl) 0 93 i7 _ 7 56 underRRows hi7 hy0 hy1 hy2 rfl (by omega) (.slice ag s.log.length cg) s.log.length (fl rcells s.log) (by rfl) ((HO5.out.alloc _).drew) ⟨W.heap.size, 0, none⟩ 1 1 (rcells ⟨st, th, kn, (c : Int), sn, wt, dn⟩) (by rfl) (by rfl) (World.news_of_block (cs := #[.int .i64 st, .int .i64 th, .int .i64 kn, .int .i64 (c : Int), .int .i64 sn, .int .i64 wt, .bool dn]) (t := 93) (fr := (0, 0)) (heap_alloc_new W _)) (by simp [rcells, Value.oneCell']) (by omega) h637 hlog (Nat.zero_le _) (W.heap.size + 1) (by simp) ?_; intro g2 cap2 w6 hown2 hgrow2 hat2 hlt2; have t1 := (hgrow2.cell_far ⟨rb, 2, none⟩ (by simp; omega) (Ne.symm nG)).trans (p2 _); have t2 := (hgrow2.frozen_far ⟨rb, 2, none⟩ (by simp; omega) (Ne.symm nG)).trans (p2z _); have t3 := (hgrow2.cell_far ⟨rb, 5, none⟩ (by simp; omega) (Ne.symm nG)).trans (p5 _); have t4 := (hgrow2.frozen_far ⟨rb, 5, none⟩ (by simp; omega) (Ne.symm nG)).trans (p5z _)))
    all_goals
      have KA : Keeps (fun _ => False) W (W.alloc (.cells #[.int .i64 st, .int .i64 th, .int .i64 kn, .int .i64 (c : Int), .int .i64 sn, .int .i64 wt, .bool dn] 93)).drew := ((Keeps.refl _ W).alloc _).drew
      obtain ⟨h7, k7⟩ := (H5.out.new KA).growG (r := ⟨st, th, kn, (c : Int), sn, wt, dn⟩) hgrow2 hown2 (hat2.imp id (fun e => by rw [e]; simp))
      have LH : Hid ((Value.slice ag s.log.length cg).ownBlock = some g2 ∨ W.heap.size ≤ g2) := hat2.imp id (fun e => by omega)
      have u5 := h7.f5
      have u5z := h7.z 5 (by omega)
      have H7 : Hid (RV (w6.setCell ⟨rb, 2, none⟩ (.slice (some ⟨g2, 0, none⟩) (s.log.length + 1) cap2)) rb vf vr (.slice (some ⟨g2, 0, none⟩) (s.log.length + 1) cap2) s.cells (rvs.set c (.slice (some ⟨gg, 0, none⟩) (nl + 1) cap1)) (fun k => if k = c then ix s.log c ++ [s.log.length] else ix s.log k) (role (role ρ gg (4 + c)) g2 3) { s with log := s.log ++ [⟨st, th, kn, (c : Int), sn, wt, dn⟩] }) := h7
      clear h7 hgrow2 hown2 hat2 hlt2 t1 t2 t3 t4 p2 p2z p5 p5z s0 s1 s2 s3 s4 s5 s6 F2 F5 Z2 Z5
      go_wp2_with fail
      go_end0
      rw [← hvr]
      exact put_end hc HN.out HI.out HK0.out K5.out HE.out hgr LG.out LH.out KA k7 H7.out
end Go.Proofs.YtaikngpgmcpecaaGreat
