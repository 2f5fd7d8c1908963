import Derived.Test.YtgjndhbfjofkeaaGreatDoorG29
namespace Go.Proofs.YtgjndhbfjofkeaaGreatDoor
open Go.RowKit
inductive SI (kd t i : Nat) (p p' : Pt) (s : Ws) (m : Mm) (r : Ro) (s' : Ws) (m' : Mm) : Prop
  | begin (ab : Nat) (c : Sc) (a : p.T.a = none) (e : r = (enterRow p.T p.T.th 1 s.atts.length).acc (m.bump 0).took) (hc : c.rs = []) (hp : p' = ⟨p.T.begun (i : Int) (m.val 0) (m.cells.length : Int) ab, c, Tx.fresh (i : Int) (m.val 0) (m.cells.length : Int) s.atts.length 0, 0, fun _ => none⟩) (hs : s' = s.beg (i : Int) (m.val 0) (m.cells.length : Int) (m.cells.length + 1)) (hm : m' = (((m.bump 0).make 0).make 1).make 0)
  | again (ab0 ab q : Nat) (c : Sc) (a : p.T.a = some ab0) (d : p.x.alive = false) (hq : p.T.pr = (q : Int)) (e : r = enterRow p.T p.T.th 2 s.atts.length) (hc : c.rs = []) (hp : p' = ⟨p.T.begun (i : Int) p.T.st (q : Int) ab, c, Tx.fresh (i : Int) p.T.st (q : Int) s.atts.length p.x.rank, 0, fun _ => none⟩) (hs : s' = s.beg (i : Int) p.T.st (q : Int) m.cells.length) (hm : m' = (m.make 1).make 0)
  | go (ab : Nat) (r0 : Ro) (a : p.T.a = some ab) (al : p.x.alive = true) (e : r = r0.go p.T) (hT : p'.T = p.T.out r0.fin) (sp : Stp m m') (po : PO kd t p.x p.c.rs p.n p.f s m r0 p'.x p'.c.rs p'.n p'.f s' m')
section
variable {w w' w'' : World} {ρ ρ' ρ'' lb lb' lb'' : Nat → Nat} {u j : Nat} {B : Bk} {nd kr kr' kd t i : Nat} {xs : Nat → Int} {p : Int} {P : Nat → Pt} {s s' : Ws} {m m' : Mm}
theorem FL.fin (h : FL u j w w' ρ ρ' lb lb') {N : Nat} (k : Keeps (fun i => i = N) w' w'') (hN : w.heap.size ≤ N) : FL u j w w'' ρ ρ' lb lb' :=
  ⟨h.keeps.trans' k (fun _ _ e => e) (fun i hi e => by omega), h.old⟩
theorem FM.tst (h : FM w ρ lb u j B nd xs kr kd p P s m) (hi : i < 4) {W : World} (K : Keeps (fun _ => False) w W) : Calls Tryz.prog 16 #[.pointer (some ⟨B.tb i, 0, none⟩)] W fun e w' => e = .returned (.int .i64 ((P i).T.state (P i).x)) ∧ w' = W :=
  t_state ((h.tc i hi).1.keep (by show 0 < 13; decide) K (fun e => e)) (c := (P i).c) (fun ab ha => (h.ax i ab hi ha).ax.cl.keep (by show 0 < 36; decide) K (fun e => e))
theorem FM.fresh (h : FM w ρ lb u j B nd xs kr kd p P s m) (hi : i < 4) {k : Int} (hk : (P i).T.state (P i).x = k) (W : World) (K : Keeps (fun _ => False) w W) : Calls Tryz.prog 46 #[.pointer (some ⟨B.tb i, 0, none⟩)] W fun e w' => e = .returned (.bool (k == 0)) ∧ w' = W := by
  have := h.tst hi K
  rw [hk] at this
  exact t_isFresh this
set_option maxHeartbeats 1600000 in
set_option maxRecDepth 1000000 in
theorem f_begin (h : FM w ρ lb u j B nd xs kr kd p P s m) (hQ : FQ kd t P s m) (hi : i < 4) (ha : (P i).T.a = none) (hfr : m.free = true) (hlog : (m.log.length + 1) * 56 ≤ 140737488355328) (hr1 : s.atts.length < 16384) (hr2 : m.cells.length + 3 ≤ 65536) :
    Calls Tryz.prog 32 #[.pointer (some ⟨B.tb i, 0, none⟩)] w fun e w' => ∃ r p' s' m' kr' ρ' lb', e = .returned (.tuple #[.agg r.cells.toArray, .int .i64 0]) ∧ FM w' ρ' lb' u j B nd xs kr' kd p (fun k => if k = i then p' else P k) s' m' ∧ FQ kd (t + 1) (fun k => if k = i then p' else P k) s' m' ∧ FL u j w w' ρ ρ' lb lb' ∧ SI kd t i (P i) p' s m r s' m' := by
  have pq := hQ.pt i hi
  have n0 := pq.no ha
  have hs0 : (P i).T.state (P i).x = 0 := by unfold Tr.state; rw [if_pos n0.2.1, ha]
  have K0 : Keeps (fun _ => False) w (w.alloc (.cells #[.int .i64 0, .int .i64 0, .int .i64 0, .int .i64 0, .int .i64 0, .int .i64 0, .int .i64 0, .int .i64 0, .int .i64 0, .int .i64 0, .int .i64 0, .int .i64 0, .int .i64 0, .bool false, .bool false, .bool false, .int .i64 0, .bool false, .int .i64 0, .int .i64 0, .bool false, .bool false, .int .i64 0, .int .i64 0, .bool false, .int .i64 0] 36)) := (Keeps.refl _ w).alloc _
  have hN0 : (w.alloc (.cells #[.int .i64 0, .int .i64 0, .int .i64 0, .int .i64 0, .int .i64 0, .int .i64 0, .int .i64 0, .int .i64 0, .int .i64 0, .int .i64 0, .int .i64 0, .int .i64 0, .int .i64 0, .bool false, .bool false, .bool false, .int .i64 0, .bool false, .int .i64 0, .int .i64 0, .bool false, .bool false, .int .i64 0, .int .i64 0, .bool false, .int .i64 0] 36)).heap.size = w.heap.size + 1 := by simp
  have hZ : CL (w.alloc (.cells #[.int .i64 0, .int .i64 0, .int .i64 0, .int .i64 0, .int .i64 0, .int .i64 0, .int .i64 0, .int .i64 0, .int .i64 0, .int .i64 0, .int .i64 0, .int .i64 0, .int .i64 0, .bool false, .bool false, .bool false, .int .i64 0, .bool false, .int .i64 0, .int .i64 0, .bool false, .bool false, .int .i64 0, .int .i64 0, .bool false, .int .i64 0] 36)) w.heap.size Ro.zero.cells := CL.made _ _ _
  have h0 := h.new K0
  obtain ⟨ck, cf, cv, cl, cw, cp⟩ := hQ.clock
  have tc := h0.tc i hi
  have ltb : B.tb i < w.heap.size := (h.tc i hi).1.lt (by show 0 < 13; decide)
  have hb := t_begin tc.1 ha tc.2.1 h0.rg.1 h0.r0.1 h0.st h0.mg h0.tr hQ.c0 hfr hlog (by omega) (by unfold Ws.roomA; rw [cl]; simp; omega) (by have := n0.1; omega)
  refine (t_step_begin (Q := fun r w1 => r = (enterRow (P i).T (P i).T.th 1 s.atts.length).acc (m.bump 0).took ∧ ∃ ab om ρ', AX w1 ρ' u j ⟨B.mb, B.wb, B.gb, B.db, .slice none 0 0, none, .slice none 0 0, om, []⟩ ab (Tx.fresh (P i).T.th (m.val 0) (m.cells.length : Int) s.atts.length 0) 0 (fun _ => none) (s.beg (P i).T.th (m.val 0) (m.cells.length : Int) (m.cells.length + 1)) ((((m.bump 0).make 0).make 1).make 0) ∧ CL w1 (B.tb i) (((P i).T.begun (P i).T.th (m.val 0) (m.cells.length : Int) ab).cells B.mb B.wb B.gb B.db) ∧ Fr (fun z => z = B.tb i) u j (w.alloc (.cells #[.int .i64 0, .int .i64 0, .int .i64 0, .int .i64 0, .int .i64 0, .int .i64 0, .int .i64 0, .int .i64 0, .int .i64 0, .int .i64 0, .int .i64 0, .int .i64 0, .int .i64 0, .bool false, .bool false, .bool false, .int .i64 0, .bool false, .int .i64 0, .int .i64 0, .bool false, .bool false, .int .i64 0, .int .i64 0, .bool false, .int .i64 0] 36)) w1 ρ ρ' ∧ (w.alloc (.cells #[.int .i64 0, .int .i64 0, .int .i64 0, .int .i64 0, .int .i64 0, .int .i64 0, .int .i64 0, .int .i64 0, .int .i64 0, .int .i64 0, .int .i64 0, .int .i64 0, .int .i64 0, .bool false, .bool false, .bool false, .int .i64 0, .bool false, .int .i64 0, .int .i64 0, .bool false, .bool false, .int .i64 0, .int .i64 0, .bool false, .int .i64 0] 36)).heap.size ≤ ab ∧ (w.alloc (.cells #[.int .i64 0, .int .i64 0, .int .i64 0, .int .i64 0, .int .i64 0, .int .i64 0, .int .i64 0, .int .i64 0, .int .i64 0, .int .i64 0, .int .i64 0, .int .i64 0, .int .i64 0, .bool false, .bool false, .bool false, .int .i64 0, .bool false, .int .i64 0, .int .i64 0, .bool false, .bool false, .int .i64 0, .int .i64 0, .bool false, .int .i64 0] 36)).heap.size ≤ om) (h.tc i hi).1 n0.1 (h.fresh hi hs0) (hb.mono ?_)).mono ?_
  · rintro e w1 ⟨ab, om, ρ1, rfl, a1, a2, a3, a4, a5⟩
    exact ⟨_, rfl, ⟨rfl, ab, om, ρ1, a1, a2, a3, a4, a5⟩, hZ.keep (by show 0 < 26; decide) a3.keeps (fun e => e.elim (fun e => h.S0 (by rw [h.st.bnd _ (Nat.le_refl _)] at e; exact e)) (fun e => by have e : w.heap.size = B.tb i := e; omega))⟩
  · rintro e w' ⟨r, w1, rfl, ⟨rfl, ab, om, ρ1, a1, a2, a3, a4, a5⟩, k1⟩
    rw [pq.th] at a1 a2
    have nQ : ∀ k, Own ⟨B.mb, B.wb, B.gb, B.db, .slice none 0 0, none, .slice none 0 0, om, []⟩ ab k → (w.alloc (.cells #[.int .i64 0, .int .i64 0, .int .i64 0, .int .i64 0, .int .i64 0, .int .i64 0, .int .i64 0, .int .i64 0, .int .i64 0, .int .i64 0, .int .i64 0, .int .i64 0, .int .i64 0, .bool false, .bool false, .bool false, .int .i64 0, .bool false, .int .i64 0, .int .i64 0, .bool false, .bool false, .int .i64 0, .int .i64 0, .bool false, .int .i64 0] 36)).heap.size ≤ k := fun k e => by
      rcases e with e | e | e | e | e
      · omega
      · have e : k = om := e
        omega
      · cases e
      · cases e
      · cases e
    have hdl : B.db < w.heap.size := World.block_lt_of_cell? _ _ h.dr.taken
    have eT := (h.tc i hi).2.2
    have S0 := h.S0
    have dr1 := h0.dr.keep a3.keeps (fun e => e.elim (fun e => S0 (by rw [h.rd.1] at e; exact e)) (fun e => by have e : B.db = B.tb i := e; have := h.rd.2; rw [e] at this; omega)) (fun e => e.elim (fun e => S0 (by rw [h.rr.1] at e; exact e)) (fun e => by have e : B.g = B.tb i := e; have := h.rr.2.1; rw [e] at this; omega))
    obtain ⟨lb1, F1, L1⟩ := h0.step hi a3 (fun k _ e => .inr (.inr e)) a1.st dr1 (p' := ⟨(P i).T.begun (i : Int) (m.val 0) (m.cells.length : Int) ab, ⟨B.mb, B.wb, B.gb, B.db, .slice none 0 0, none, .slice none 0 0, om, []⟩, Tx.fresh (i : Int) (m.val 0) (m.cells.length : Int) s.atts.length 0, 0, fun _ => none⟩) a2 (fun ab' e => by
      have e : some ab = some ab' := e
      cases e
      exact ⟨a1, fun k hk => .inr (nQ k hk), rfl, rfl, rfl, rfl⟩)
    have o1 := L1.old w.heap.size (by rw [hN0]; omega)
    have F2 := F1.own k1 (fun k _ e => by subst e; exact ⟨o1.1.trans (h.st.bnd _ (Nat.le_refl _)), o1.2.trans (h.bd _ (Nat.le_refl _))⟩)
    have q2 := ck.enter hi (q := m.cells.length) (by have := hQ.c0; omega) (by omega) cf (st := m.val 0) (K := 0) (hQ.pv.i64 0 hQ.c0) cv ⟨Int.le_refl _, by decide⟩ (fun _ => rfl) n0.2.1 hr1 (fun k b hk _ hb => cp k b hk hb) (c' := ⟨B.mb, B.wb, B.gb, B.db, .slice none 0 0, none, .slice none 0 0, om, []⟩) rfl ab
    rw [cl] at q2
    exact ⟨_, _, _, _, _, _, _, rfl, F2, q2, ((FL.new K0 ρ lb).trans L1).fin k1 (Nat.le_refl _), .begin ab _ ha rfl rfl rfl rfl rfl⟩
set_option maxHeartbeats 1600000 in
set_option maxRecDepth 1000000 in
theorem f_again (h : FM w ρ lb u j B nd xs kr kd p P s m) (hQ : FQ kd t P s m) (hi : i < 4) {ab0 : Nat} (ha : (P i).T.a = some ab0) (hal : (P i).x.alive = false) (hoc : (P i).T.oc = 0) (hr1 : s.atts.length < 16384) (hr2 : m.cells.length + 3 ≤ 65536) (ht : t ≤ 1000000) :
    Calls Tryz.prog 32 #[.pointer (some ⟨B.tb i, 0, none⟩)] w fun e w' => ∃ r p' s' m' kr' ρ' lb', e = .returned (.tuple #[.agg r.cells.toArray, .int .i64 0]) ∧ FM w' ρ' lb' u j B nd xs kr' kd p (fun k => if k = i then p' else P k) s' m' ∧ FQ kd (t + 1) (fun k => if k = i then p' else P k) s' m' ∧ FL u j w w' ρ ρ' lb lb' ∧ SI kd t i (P i) p' s m r s' m' := by
  have pq := hQ.pt i hi
  have pa := pq.so ab0 ha
  have fa := h.ax i ab0 hi ha
  obtain ⟨q, hq, hq0, hql, hqf, hqv⟩ := pa.rk
  have hq' : (P i).T.pr = (q : Int) := pa.pr.symm.trans hq
  have hs0 : (P i).T.state (P i).x = 0 := by unfold Tr.state Tx.state; rw [if_pos hoc, ha, hal]; rfl
  have K0 : Keeps (fun _ => False) w (w.alloc (.cells #[.int .i64 0, .int .i64 0, .int .i64 0, .int .i64 0, .int .i64 0, .int .i64 0, .int .i64 0, .int .i64 0, .int .i64 0, .int .i64 0, .int .i64 0, .int .i64 0, .int .i64 0, .bool false, .bool false, .bool false, .int .i64 0, .bool false, .int .i64 0, .int .i64 0, .bool false, .bool false, .int .i64 0, .int .i64 0, .bool false, .int .i64 0] 36)) := (Keeps.refl _ w).alloc _
  have hN0 : (w.alloc (.cells #[.int .i64 0, .int .i64 0, .int .i64 0, .int .i64 0, .int .i64 0, .int .i64 0, .int .i64 0, .int .i64 0, .int .i64 0, .int .i64 0, .int .i64 0, .int .i64 0, .int .i64 0, .bool false, .bool false, .bool false, .int .i64 0, .bool false, .int .i64 0, .int .i64 0, .bool false, .bool false, .int .i64 0, .int .i64 0, .bool false, .int .i64 0] 36)).heap.size = w.heap.size + 1 := by simp
  have hZ : CL (w.alloc (.cells #[.int .i64 0, .int .i64 0, .int .i64 0, .int .i64 0, .int .i64 0, .int .i64 0, .int .i64 0, .int .i64 0, .int .i64 0, .int .i64 0, .int .i64 0, .int .i64 0, .int .i64 0, .bool false, .bool false, .bool false, .int .i64 0, .bool false, .int .i64 0, .int .i64 0, .bool false, .bool false, .int .i64 0, .int .i64 0, .bool false, .int .i64 0] 36)) w.heap.size Ro.zero.cells := CL.made _ _ _
  have h0 := h.new K0
  have tc := h0.tc i hi
  have fa0 := h0.ax i ab0 hi ha
  have ltb : B.tb i < w.heap.size := (h.tc i hi).1.lt (by show 0 < 13; decide)
  have hb := t_enter tc.1 tc.2.1 h0.st h0.mg h0.tr (by unfold Ws.roomA; simp; omega) (by have := pq.tr; omega) hql (P i).T.th (P i).T.st 2 (P i).x.rank (fun W K => t_rank_of (tc.1.keep (by show 0 < 13; decide) K (fun e => e)) (q := some ⟨ab0, 0, none⟩) (by rw [ha]; rfl) (rank_tell (fa0.ax.cl.keep (by show 0 < 36; decide) K (fun e => e))))
  rw [← hq'] at hb
  refine (t_step_again (Q := fun r w1 => r = enterRow (P i).T (P i).T.th 2 s.atts.length ∧ ∃ ab om ρ', AX w1 ρ' u j ⟨B.mb, B.wb, B.gb, B.db, .slice none 0 0, none, .slice none 0 0, om, []⟩ ab (Tx.fresh (P i).T.th (P i).T.st (P i).T.pr s.atts.length (P i).x.rank) 0 (fun _ => none) (s.beg (P i).T.th (P i).T.st (P i).T.pr m.cells.length) ((m.make 1).make 0) ∧ CL w1 (B.tb i) (((P i).T.begun (P i).T.th (P i).T.st (P i).T.pr ab).cells B.mb B.wb B.gb B.db) ∧ Fr (fun z => z = B.tb i) u j (w.alloc (.cells #[.int .i64 0, .int .i64 0, .int .i64 0, .int .i64 0, .int .i64 0, .int .i64 0, .int .i64 0, .int .i64 0, .int .i64 0, .int .i64 0, .int .i64 0, .int .i64 0, .int .i64 0, .bool false, .bool false, .bool false, .int .i64 0, .bool false, .int .i64 0, .int .i64 0, .bool false, .bool false, .int .i64 0, .int .i64 0, .bool false, .int .i64 0] 36)) w1 ρ ρ' ∧ (w.alloc (.cells #[.int .i64 0, .int .i64 0, .int .i64 0, .int .i64 0, .int .i64 0, .int .i64 0, .int .i64 0, .int .i64 0, .int .i64 0, .int .i64 0, .int .i64 0, .int .i64 0, .int .i64 0, .bool false, .bool false, .bool false, .int .i64 0, .bool false, .int .i64 0, .int .i64 0, .bool false, .bool false, .int .i64 0, .int .i64 0, .bool false, .int .i64 0] 36)).heap.size ≤ ab ∧ (w.alloc (.cells #[.int .i64 0, .int .i64 0, .int .i64 0, .int .i64 0, .int .i64 0, .int .i64 0, .int .i64 0, .int .i64 0, .int .i64 0, .int .i64 0, .int .i64 0, .int .i64 0, .int .i64 0, .bool false, .bool false, .bool false, .int .i64 0, .bool false, .int .i64 0, .int .i64 0, .bool false, .bool false, .int .i64 0, .int .i64 0, .bool false, .int .i64 0] 36)).heap.size ≤ om) (h.tc i hi).1 (by have := pa.tr; omega) (h.fresh hi hs0) (hb.mono ?_)).mono ?_
  · rintro e w1 ⟨ab, om, ρ1, rfl, a1, a2, a3, a4, a5⟩
    exact ⟨_, rfl, ⟨rfl, ab, om, ρ1, a1, a2, a3, a4, a5⟩, hZ.keep (by show 0 < 26; decide) a3.keeps (fun e => e.elim (fun e => h.S0 (by rw [h.st.bnd _ (Nat.le_refl _)] at e; exact e)) (fun e => by have e : w.heap.size = B.tb i := e; omega))⟩
  · rintro e w' ⟨r, w1, rfl, ⟨rfl, ab, om, ρ1, a1, a2, a3, a4, a5⟩, k1⟩
    rw [pq.th, hq'] at a1 a2
    have nQ : ∀ k, Own ⟨B.mb, B.wb, B.gb, B.db, .slice none 0 0, none, .slice none 0 0, om, []⟩ ab k → (w.alloc (.cells #[.int .i64 0, .int .i64 0, .int .i64 0, .int .i64 0, .int .i64 0, .int .i64 0, .int .i64 0, .int .i64 0, .int .i64 0, .int .i64 0, .int .i64 0, .int .i64 0, .int .i64 0, .bool false, .bool false, .bool false, .int .i64 0, .bool false, .int .i64 0, .int .i64 0, .bool false, .bool false, .int .i64 0, .int .i64 0, .bool false, .int .i64 0] 36)).heap.size ≤ k := fun k e => by
      rcases e with e | e | e | e | e
      · omega
      · have e : k = om := e
        omega
      · cases e
      · cases e
      · cases e
    have S0 := h.S0
    have eT := (h.tc i hi).2.2
    have dr1 := h0.dr.keep a3.keeps (fun e => e.elim (fun e => S0 (by rw [h.rd.1] at e; exact e)) (fun e => by have e : B.db = B.tb i := e; have := h.rd.2; rw [e] at this; omega)) (fun e => e.elim (fun e => S0 (by rw [h.rr.1] at e; exact e)) (fun e => by have e : B.g = B.tb i := e; have := h.rr.2.1; rw [e] at this; omega))
    obtain ⟨lb1, F1, L1⟩ := h0.step hi a3 (fun k _ e => .inr (.inr e)) a1.st dr1 (p' := ⟨(P i).T.begun (i : Int) (P i).T.st (q : Int) ab, ⟨B.mb, B.wb, B.gb, B.db, .slice none 0 0, none, .slice none 0 0, om, []⟩, Tx.fresh (i : Int) (P i).T.st (q : Int) s.atts.length (P i).x.rank, 0, fun _ => none⟩) a2 (fun ab' e => by
      have e : some ab = some ab' := e
      cases e
      exact ⟨a1, fun k hk => .inr (nQ k hk), rfl, rfl, rfl, rfl⟩)
    have o1 := L1.old w.heap.size (by rw [hN0]; omega)
    have F2 := F1.own k1 (fun k _ e => by subst e; exact ⟨o1.1.trans (h.st.bnd _ (Nat.le_refl _)), o1.2.trans (h.bd _ (Nat.le_refl _))⟩)
    have hstm : In64 (P i).T.st := by
      have := hQ.pv.sm _ pa.gx.gc.no
      rw [pa.gx.gc.at_.2.1, pa.st] at this
      exact this
    have q2 := hQ.enter hi hq0 hql hqf hstm hqv pa.gx.gc.rk pa.kp hoc hr1 (fun k b hk hne hb => by
      have := (hQ.dj k i b ab0 hk hi hne hb ha).2
      rw [hq] at this
      exact this) (c' := ⟨B.mb, B.wb, B.gb, B.db, .slice none 0 0, none, .slice none 0 0, om, []⟩) rfl ab
    exact ⟨_, _, _, _, _, _, _, rfl, F2, q2, ((FL.new K0 ρ lb).trans L1).fin k1 (Nat.le_refl _), .again ab0 ab q _ ha hal hq' rfl rfl rfl rfl rfl⟩
end
end Go.Proofs.YtgjndhbfjofkeaaGreatDoor

namespace Go.Proofs.YtgjndhbfjofkeaaGreatDoor
open Go.RowKit
section
variable {w w' w'' : World} {ρ ρ' ρ'' lb lb' lb'' : Nat → Nat} {u j : Nat} {B : Bk} {nd kr kr' kd t i : Nat} {xs : Nat → Int} {p : Int} {P : Nat → Pt} {s s' : Ws} {m m' : Mm}
set_option maxHeartbeats 1600000 in
set_option maxRecDepth 1000000 in
theorem f_go (h : FM w ρ lb u j B nd xs kr kd p P s m) (hQ : FQ kd t P s m) (hi : i < 4) {ab k : Nat} (ha : (P i).T.a = some ab) (hal : (P i).x.alive = true) (hk : (P i).x.nx = some k) (hfr : m.free = true) (hbg : m.begun = true) (hlog : (m.log.length + 1) * 56 ≤ 140737488355328) (ht : t ≤ 1000000) (hroom : s.locs.length < 16384) :
    Calls Tryz.prog 32 #[.pointer (some ⟨B.tb i, 0, none⟩)] w fun e w' => ∃ r p' s' m' kr' ρ' lb', e = .returned (.tuple #[.agg r.cells.toArray, .int .i64 0]) ∧ FM w' ρ' lb' u j B nd xs kr' kd p (fun k => if k = i then p' else P k) s' m' ∧ FQ kd (t + 1) (fun k => if k = i then p' else P k) s' m' ∧ FL u j w w' ρ ρ' lb lb' ∧ SI kd t i (P i) p' s m r s' m' := by
  have pq := hQ.pt i hi
  have pa := pq.so ab ha
  have fa := h.ax i ab hi ha
  have hoc : (P i).T.oc = 0 := by
    by_cases e : (P i).T.oc = 0
    · exact e
    · have := pa.oc e; rw [hal] at this; cases this
  have hs0 : (P i).T.state (P i).x = 2 := by unfold Tr.state Tx.state; rw [if_pos hoc, ha, hal, hk]; rfl
  have S0 := h.S0
  have eT := (h.tc i hi).2.2
  have rT := (h.tc i hi).2.1
  have ltb : B.tb i < w.heap.size := (h.tc i hi).1.lt (by show 0 < 13; decide)
  have hdl : B.db < w.heap.size := World.block_lt_of_cell? _ _ h.dr.taken
  obtain ⟨w0, hw0⟩ : ∃ w0, w0 = w.alloc (.cells #[.int .i64 0, .int .i64 0, .int .i64 0, .int .i64 0, .int .i64 0, .int .i64 0, .int .i64 0, .int .i64 0, .int .i64 0, .int .i64 0, .int .i64 0, .int .i64 0, .int .i64 0, .bool false, .bool false, .bool false, .int .i64 0, .bool false, .int .i64 0, .int .i64 0, .bool false, .bool false, .int .i64 0, .int .i64 0, .bool false, .int .i64 0] 36) := ⟨_, rfl⟩
  obtain ⟨w2, hw2⟩ : ∃ w2, w2 = w0.alloc (.cells #[.int .i64 0, .int .i64 0, .int .i64 0, .int .i64 0, .int .i64 0, .int .i64 0, .int .i64 0, .int .i64 0, .int .i64 0, .int .i64 0, .int .i64 0, .int .i64 0, .int .i64 0, .bool false, .bool false, .bool false, .int .i64 0, .bool false, .int .i64 0, .int .i64 0, .bool false, .bool false, .int .i64 0, .int .i64 0, .bool false, .int .i64 0] 36) := ⟨_, rfl⟩
  have K0 : Keeps (fun _ => False) w w0 := by rw [hw0]; exact (Keeps.refl _ w).alloc _
  have K2 : Keeps (fun _ => False) w0 w2 := by rw [hw2]; exact (Keeps.refl _ w0).alloc _
  have N0 : w0.heap.size = w.heap.size + 1 := by rw [hw0]; simp
  have N2 : w2.heap.size = w0.heap.size + 1 := by rw [hw2]; simp
  have hZ0 : CL w0 w.heap.size Ro.zero.cells := by rw [hw0]; exact CL.made _ _ _
  have hZ2 : CL w2 w.heap.size Ro.zero.cells := hZ0.keep (by show 0 < 26; decide) K2 (fun e => e)
  have hY2 : CL w2 w0.heap.size Ro.zero.cells := by rw [hw2]; exact CL.made _ _ _
  have h0 := h.new K0
  have h2 := h0.new K2
  have tc0 := h0.tc i hi
  have tc2 := h2.tc i hi
  have fa2 := h2.ax i ab hi ha
  obtain ⟨fx, dx, hng⟩ := h2.fx hi ha
  have ol : ∀ k, Own (P i).c ab k → k < w.heap.size := fun k hk => fa.ax.olt hk
  have nT : ¬ (Own (P i).c ab (B.tb i) ∨ B.tb i = (P i).c.db) := fun e => e.elim (fun e => by have := fa.lb _ e; omega) (fun e => by have := h.rd.2; rw [← fa.db, ← e] at this; omega)
  have nN : ∀ k, w.heap.size ≤ k → ¬ (Own (P i).c ab k ∨ k = (P i).c.db) := fun k hk e => e.elim (fun e => by have := ol k e; omega) (fun e => by rw [e, fa.db] at hk; omega)
  have hs := step_any fa2.ax fx dx hng hQ.pv pa.gx hal hk hfr hbg hlog (by have := pa.ln; omega) (by have := pa.ln; omega) ht hroom
  have hg := t_goOn (Q := fun r w3 => ∃ x' rs' n' f' s' m' kr ρ' c', Res w2 w3 ρ ρ' u j (P i).c c' ab x' rs' n' f' s' m' (fun q => Own (P i).c ab q ∨ q = (P i).c.db) ∧ IsDr w3 (P i).c.db B.g nd xs kr ∧ Stp m m' ∧ PO kd t (P i).x (P i).c.rs (P i).n (P i).f s m r x' rs' n' f' s' m' ∧ CL w3 w.heap.size Ro.zero.cells) tc0.1 (ab := ab) (by rw [ha]; rfl) (by
    rw [← hw2]
    refine hs.mono ?_
    rintro e w3 ⟨r, x', rs', n', f', s', m', kr', ρ3, c', rfl, b1, b2, bs, b3⟩
    have kz := hZ2.keep (by show 0 < 26; decide) b1.fr.keeps (fun e => e.elim (fun e => S0 (by rw [h.st.bnd _ (Nat.le_refl _)] at e; exact e)) (nN _ (Nat.le_refl _)))
    exact ⟨r, rfl, ⟨x', rs', n', f', s', m', kr', ρ3, c', b1, b2, bs, b3, kz⟩, tc2.1.keep (by show 0 < 13; decide) b1.fr.keeps (fun e => e.elim (fun e => S0 (by rw [rT] at e; exact e)) nT), hY2.keep (by show 0 < 26; decide) b1.fr.keeps (fun e => e.elim (fun e => S0 (by rw [h.st.bnd _ (by omega)] at e; exact e)) (nN _ (by omega)))⟩)
  refine (t_step_go (Q := fun r w4 => ∃ r0 w3, (∃ x' rs' n' f' s' m' kr ρ' c', Res w2 w3 ρ ρ' u j (P i).c c' ab x' rs' n' f' s' m' (fun q => Own (P i).c ab q ∨ q = (P i).c.db) ∧ IsDr w3 (P i).c.db B.g nd xs kr ∧ Stp m m' ∧ PO kd t (P i).x (P i).c.rs (P i).n (P i).f s m r0 x' rs' n' f' s' m' ∧ CL w3 w.heap.size Ro.zero.cells) ∧ r = r0.go (P i).T ∧ CL w4 (B.tb i) (((P i).T.out r0.fin).cells B.mb B.wb B.gb B.db) ∧ Keeps (fun k => k = B.tb i ∨ k = w0.heap.size) w3 w4) (h.fresh hi hs0) (by
    rw [← hw0]
    refine hg.mono ?_
    rintro e w4 ⟨r, w3, ⟨x', rs', n', f', s', m', kr', ρ3, c', b1, b2, bs, b3, b4⟩, rfl, b5, b6⟩
    exact ⟨_, rfl, ⟨r, w3, ⟨x', rs', n', f', s', m', kr', ρ3, c', b1, b2, bs, b3, b4⟩, rfl, b5, b6⟩, b4.keep (by show 0 < 26; decide) b6 (fun e => by omega)⟩)).mono ?_
  rintro e w' ⟨r, w4, rfl, ⟨r0, w3, ⟨x', rs', n', f', s', m', kr', ρ3, c', b1, b2, bs, b3, b4⟩, rfl, b5, b6⟩, k1⟩
  have X3 : Fr (fun q => Own (P i).c ab q ∨ q = (P i).c.db) u j w0 w3 ρ ρ3 := (Fr.of_keeps K2 (fun _ _ e => e.elim)).trans b1.fr (fun _ _ e => e) (fun _ _ e => e)
  have rT3 : ρ3 (B.tb i) = 0 := (b1.fr.old _ (by omega)).trans rT
  have rY3 : ρ3 w0.heap.size = 0 := (b1.fr.old _ (by omega)).trans (h.st.bnd _ (by omega))
  have X4 : Fr (fun q => (Own (P i).c ab q ∨ q = (P i).c.db) ∨ q = B.tb i) u j w0 w4 ρ ρ3 := X3.trans (Fr.of_keeps b6 (fun _ _ e => e)) (fun _ _ e => .inl e) (fun k hk e => .inr (by omega))
  have sw : c'.wb = B.wb := b1.sam.wb.trans fa.wb
  have sm : c'.mb = B.mb := b1.sam.mb.trans fa.mb
  have sg : c'.gb = B.gb := b1.sam.gb.trans fa.gb
  have sd : c'.db = B.db := b1.sam.db.trans fa.db
  have st4 : St w4 ρ3 u j c'.wb c'.mb s' m' := st_wr0 b1.ax.st b6 (fun k _ e => by
    rcases e with e | e
    · rw [e]; exact rT3
    · rw [e]; exact rY3)
  have no' : ∀ k, Own c' ab k → Own (P i).c ab k ∨ w2.heap.size ≤ k := fun k hk => by
    rcases hk with e | e
    · exact .inl (.inl e)
    · exact (b1.bk k e).imp .inr id
  have a4 : AX w4 ρ3 u j c' ab x' n' f' s' m' := b1.ax.oth st4 (A := fun k => k = B.tb i ∨ k = w0.heap.size) (Fr.of_keeps b6 (fun _ _ e => e)) (fun k hk e => by
    rcases no' k hk with e' | e'
    · rcases e with e | e
      · exact nT (.inl (by rw [← e]; exact e'))
      · have := ol k e'; omega
    · omega)
  rw [fa.db] at b2
  have eDT : ¬ B.db = B.tb i := fun e => by have := h.rd.2; rw [e] at this; omega
  have eGT : ¬ B.g = B.tb i := fun e => by have := h.rr.2.1; rw [e] at this; omega
  have gl := h.rr.2.2
  have dr4 := b2.keep b6 (fun e => by omega) (fun e => by omega)
  rw [sw, sm] at st4
  obtain ⟨lb1, F1, L1⟩ := h0.step hi X4 (fun k _ e => by
      rcases e with (e | e) | e
      · exact .inl (fa.lb k e)
      · right; left; rw [e, fa.db]; exact h.rd.2
      · exact .inr (.inr e)) st4 dr4 (p' := ⟨(P i).T.out r0.fin, c', x', n', f'⟩) b5 (fun ab' e => by
    have e : ((P i).T.out r0.fin).a = some ab' := e
    have e2 : ((P i).T.out r0.fin).a = (P i).T.a := by unfold Tr.out; split <;> rfl
    rw [e2, ha] at e
    cases e
    exact ⟨a4, fun k hk => (no' k hk).imp (fa.lb k) (fun e => by omega), sm, sw, sg, sd⟩)
  have o1 := L1.old w.heap.size (by omega)
  have F2 := F1.own k1 (fun k _ e => by subst e; exact ⟨o1.1.trans (h.st.bnd _ (Nat.le_refl _)), o1.2.trans (h.bd _ (Nat.le_refl _))⟩)
  have q2 := hQ.go hi ha hal b1.sam.rs b3
  exact ⟨_, _, _, _, _, _, _, rfl, F2, q2, ((FL.new K0 ρ lb).trans L1).fin k1 (Nat.le_refl _), .go ab r0 ha hal rfl rfl bs (by rw [show c'.rs = rs' from b1.sam.rs]; exact b3)⟩
theorem f_step (h : FM w ρ lb u j B nd xs kr kd p P s m) (hQ : FQ kd t P s m) (hi : i < 4) (hst : (P i).T.state (P i).x = 0 ∨ (P i).T.state (P i).x = 2) (hfr : m.free = true) (hbg : m.begun = true) (hlog : (m.log.length + 1) * 56 ≤ 140737488355328) (hr1 : s.atts.length < 16384) (hr2 : m.cells.length + 3 ≤ 65536) (ht : t ≤ 1000000) (hroom : s.locs.length < 16384) :
    Calls Tryz.prog 32 #[.pointer (some ⟨B.tb i, 0, none⟩)] w fun e w' => ∃ r p' s' m' kr' ρ' lb', e = .returned (.tuple #[.agg r.cells.toArray, .int .i64 0]) ∧ FM w' ρ' lb' u j B nd xs kr' kd p (fun k => if k = i then p' else P k) s' m' ∧ FQ kd (t + 1) (fun k => if k = i then p' else P k) s' m' ∧ FL u j w w' ρ ρ' lb lb' ∧ SI kd t i (P i) p' s m r s' m' := by
  have hoc : (P i).T.oc = 0 := by
    unfold Tr.state at hst
    by_cases e : (P i).T.oc = 0
    · exact e
    · rw [if_neg e] at hst; omega
  cases ha : (P i).T.a with
  | none => exact f_begin h hQ hi ha hfr hlog hr1 hr2
  | some ab =>
    cases hal : (P i).x.alive with
    | false => exact f_again h hQ hi ha hal hoc hr1 hr2 ht
    | true =>
      cases hk : (P i).x.nx with
      | none =>
        exfalso
        unfold Tr.state Tx.state at hst
        rw [if_pos hoc, ha, hal, hk] at hst
        simp at hst
      | some k => exact f_go h hQ hi ha hal hk hfr hbg hlog ht hroom
end
end Go.Proofs.YtgjndhbfjofkeaaGreatDoor

namespace Go.Proofs.YtgjndhbfjofkeaaGreatDoor
open Go.RowKit
attribute [local go_sem] Oper.semAt_some run_store_nf run_store_f
section
variable {w w' w'' : World} {ρ ρ' ρ'' lb lb' lb'' : Nat → Nat} {u j ab tb mb wb gb db : Nat} {T : Tr} {B : Bk} {nd kr kr' kd t i : Nat} {xs : Nat → Int} {p : Int} {P : Nat → Pt} {s s' : Ws} {m m' : Mm} {x : Tx} {c : Sc}
set_option maxHeartbeats 1600000 in
set_option maxRecDepth 1000000 in
theorem aStepO (hs : ∀ W, Keeps (fun _ => False) w W → Calls Tryz.prog 39 #[.pointer (some ⟨ab, 0, none⟩)] W fun e w' => e = .returned (.int .i64 3) ∧ w' = W) : Calls Tryz.prog 77 #[.pointer (some ⟨ab, 0, none⟩)] w fun e w' => e = .returned (.tuple #[.agg Ro.zero.cells.toArray, .int .i64 80]) ∧ Keeps (fun _ => False) w w' := by
  obtain ⟨w0, hw0⟩ : ∃ w0, w0 = ((w.alloc (.cells #[.pointer (some ⟨ab, 0, none⟩)] 86)).alloc (.cells #[.int .i64 0, .int .i64 0, .int .i64 0, .int .i64 0, .int .i64 0, .int .i64 0, .int .i64 0, .int .i64 0, .int .i64 0, .int .i64 0, .int .i64 0, .int .i64 0, .int .i64 0, .bool false, .bool false, .bool false, .int .i64 0, .bool false, .int .i64 0, .int .i64 0, .bool false, .bool false, .int .i64 0, .int .i64 0, .bool false, .int .i64 0] 36)).alloc (.cells #[.int .i64 0] 52) := ⟨_, rfl⟩
  have k0 : Keeps (fun _ => False) w w0 := by rw [hw0]; exact (((Keeps.refl _ w).alloc _).alloc _).alloc _
  have hb : CL w0 (w.heap.size + 1) Ro.zero.cells := by
    rw [hw0]
    have := CL.made (w.alloc (.cells #[.pointer (some ⟨ab, 0, none⟩)] 86)) Ro.zero.cells 36
    rw [show (w.alloc (.cells #[.pointer (some ⟨ab, 0, none⟩)] 86)).heap.size = w.heap.size + 1 by simp] at this
    exact this.alloc (by show 0 < 26; decide) _
  have ca : CL w0 w.heap.size [.pointer (some ⟨ab, 0, none⟩)] := by
    rw [hw0]
    exact ((CL.made w [.pointer (some ⟨ab, 0, none⟩)] 86).alloc (by show 0 < 1; decide) _).alloc (by show 0 < 1; decide) _
  have ce : CL w0 (w.heap.size + 1 + 1) [.int .i64 0] := by
    rw [hw0]
    refine cast ?_ (CL.made ((w.alloc (.cells #[.pointer (some ⟨ab, 0, none⟩)] 86)).alloc (.cells #[.int .i64 0, .int .i64 0, .int .i64 0, .int .i64 0, .int .i64 0, .int .i64 0, .int .i64 0, .int .i64 0, .int .i64 0, .int .i64 0, .int .i64 0, .int .i64 0, .int .i64 0, .bool false, .bool false, .bool false, .int .i64 0, .bool false, .int .i64 0, .int .i64 0, .bool false, .bool false, .int .i64 0, .int .i64 0, .bool false, .int .i64 0] 36)) [.int .i64 0] 52)
    congr 1
    simp
  have a0 := ca.c 0 _ rfl
  have hs := hs w0 k0
  have nb2 : ¬ w.heap.size + 1 + 1 = w.heap.size + 1 := by omega
  go_enter_defers Tryz.func77, Tryz.ntmps77
  go_wp2_with fail
  rw [← hw0]
  clear hw0
  refine hs.mono ?_
  clear hs
  rintro e w1 ⟨rfl, rfl⟩
  go_wp2_with (refine wpList_store_cl rfl 36 _ _ rfl (w.heap.size + 1) 0 26 _ rfl rfl rfl hb (by show 26 ≤ 26; decide) i46 (all_oneCell_toArray (by simp [Value.oneCell'])) ?_; intro w5 hb5 k5 _; have ce5 := ce.keep (by show 0 < 1; decide) k5 nb2; have e5 := ce5.c 0 _ rfl; have ze5 := ce5.z 0 (by show 0 < 1; decide); clear a0)
  have hb6 := hb5.other (p := ⟨w.heap.size + 1 + 1, 0, none⟩) nb2 (.int .i64 80)
  have ce6 := ce5.set (o := 0) (by show 0 < 1; decide) (.int .i64 80)
  have k6 : Keeps (fun k => k = w.heap.size + 1 ∨ k = w.heap.size + 1 + 1) w1 (w5.setCell ⟨w.heap.size + 1 + 1, 0, none⟩ (.int .i64 80)) := (k5.mono (fun _ _ e => .inl e)).setCell (fun _ => .inr rfl) _
  have hr6 := run_row (r := Ro.zero) hb6
  have e6 := ce6.c 0 _ rfl
  refine ⟨.tuple #[.agg Ro.zero.cells.toArray, .int .i64 80], ?_, rfl, k0.trans' k6 (fun _ _ e => e) (fun i hi e => by omega)⟩
  refine results_cell2x Tryz.results77 _ _ _ (a := ⟨w.heap.size + 1, 0, none⟩) (b := ⟨w.heap.size + 1 + 1, 0, none⟩) rfl rfl hr6 ?_
  clear hb6 ce6 hb5 ce5 e5 ze5 hr6
  generalize w5.setCell ⟨w.heap.size + 1 + 1, 0, none⟩ (.int .i64 80) = w6 at *
  go_simp
set_option maxHeartbeats 1600000 in
set_option maxRecDepth 1000000 in
theorem goOn_o (h : CL w tb (T.cells mb wb gb db)) (ha : T.a = some ab) (hs : ∀ W, Keeps (fun _ => False) w W → Calls Tryz.prog 39 #[.pointer (some ⟨ab, 0, none⟩)] W fun e w' => e = .returned (.int .i64 3) ∧ w' = W) : Calls Tryz.prog 56 #[.pointer (some ⟨tb, 0, none⟩)] w fun e w' => e = .returned (.tuple #[.agg Ro.zero.cells.toArray, .int .i64 80]) ∧ Keeps (fun _ => False) w w' := by
  obtain ⟨w0, hw0⟩ : ∃ w0, w0 = w.alloc (.cells #[.int .i64 0, .int .i64 0, .int .i64 0, .int .i64 0, .int .i64 0, .int .i64 0, .int .i64 0, .int .i64 0, .int .i64 0, .int .i64 0, .int .i64 0, .int .i64 0, .int .i64 0, .bool false, .bool false, .bool false, .int .i64 0, .bool false, .int .i64 0, .int .i64 0, .bool false, .bool false, .int .i64 0, .int .i64 0, .bool false, .int .i64 0] 36) := ⟨_, rfl⟩
  have k0 : Keeps (fun _ => False) w w0 := by rw [hw0]; exact (Keeps.refl _ w).alloc _
  have hb : CL w0 w.heap.size Ro.zero.cells := by rw [hw0]; exact CL.made _ Ro.zero.cells _
  have hp := t_present (h.keep (by show 0 < 13; decide) k0 (fun e => e))
  rw [ha] at hp
  go_enter Tryz.func56, Tryz.ntmps56
  go_wp2_with fail
  rw [← hw0]
  clear hw0
  refine hp.mono ?_
  rintro e w1 ⟨rfl, rfl⟩
  go_wp2_with fail
  refine (aStepO (fun W K => hs W (k0.trans K))).mono ?_
  rintro e w2 ⟨rfl, k2⟩
  have hb2 := hb.keep (by show 0 < 26; decide) k2 (fun e => e)
  have lt2 : w.heap.size < w2.heap.size := hb2.lt (by show 0 < 26; decide)
  obtain ⟨w3, hw3⟩ : ∃ w3, w3 = w2.alloc (.cells #[.int .i64 0, .int .i64 0, .int .i64 0, .int .i64 0, .int .i64 0, .int .i64 0, .int .i64 0, .int .i64 0, .int .i64 0, .int .i64 0, .int .i64 0, .int .i64 0, .int .i64 0, .bool false, .bool false, .bool false, .int .i64 0, .bool false, .int .i64 0, .int .i64 0, .bool false, .bool false, .int .i64 0, .int .i64 0, .bool false, .int .i64 0] 36) := ⟨_, rfl⟩
  have k3 : Keeps (fun _ => False) w2 w3 := by rw [hw3]; exact (Keeps.refl _ w2).alloc _
  have hb3 := hb2.keep (by show 0 < 26; decide) k3 (fun e => e)
  have hc3 : CL w3 w2.heap.size Ro.zero.cells := by rw [hw3]; exact CL.made _ Ro.zero.cells _
  have nb : ¬ w.heap.size = w2.heap.size := by omega
  go_wp2_with (first | (rw [← hw3]; clear hw3; refine wpList_store_cl rfl 36 _ _ rfl w2.heap.size 0 26 _ rfl rfl rfl hc3 (by show 26 ≤ 26; decide) i46 (all_oneCell_toArray (by simp [Ro.cells, Value.oneCell'])) ?_; intro w4 hc4 k4 _; have hb4 := hb3.keep (by show 0 < 26; decide) k4 nb; clear hc3 hb3) | (refine wpList_store_cl rfl 36 _ _ rfl w.heap.size 0 26 _ rfl rfl rfl hb4 (by show 26 ≤ 26; decide) i46 (all_oneCell_toArray (by simp [Value.oneCell'])) ?_; intro w5 hb5 k5 _))
  have kk : Keeps (fun _ => False) w w5 := (((k0.trans k2).trans k3).trans' k4 (fun _ _ e => e) (fun i hi e => by omega)).trans' k5 (fun _ _ e => e) (fun i hi e => by omega)
  refine bodyPost_ret (v := .tuple #[.agg Ro.zero.cells.toArray, .int .i64 80]) ?_ rfl ⟨rfl, kk⟩
  have hr := run_row (r := Ro.zero) hb5
  rw [results_cell_tmp rfl]
  simp [asAddr, hr, Result.andThen]
set_option maxHeartbeats 1600000 in
set_option maxRecDepth 1000000 in
theorem step_o (h : CL w tb (T.cells mb wb gb db)) (ha : T.a = some ab) (hs : ∀ W, Keeps (fun _ => False) w W → Calls Tryz.prog 39 #[.pointer (some ⟨ab, 0, none⟩)] W fun e w' => e = .returned (.int .i64 3) ∧ w' = W) (hf : ∀ W, Keeps (fun _ => False) w W → Calls Tryz.prog 46 #[.pointer (some ⟨tb, 0, none⟩)] W fun e w' => e = .returned (.bool false) ∧ w' = W) : Calls Tryz.prog 32 #[.pointer (some ⟨tb, 0, none⟩)] w fun e w' => e = .returned (.tuple #[.agg Ro.zero.cells.toArray, .int .i64 80]) ∧ Keeps (fun _ => False) w w' := by
  obtain ⟨w0, hw0⟩ : ∃ w0, w0 = w.alloc (.cells #[.int .i64 0, .int .i64 0, .int .i64 0, .int .i64 0, .int .i64 0, .int .i64 0, .int .i64 0, .int .i64 0, .int .i64 0, .int .i64 0, .int .i64 0, .int .i64 0, .int .i64 0, .bool false, .bool false, .bool false, .int .i64 0, .bool false, .int .i64 0, .int .i64 0, .bool false, .bool false, .int .i64 0, .int .i64 0, .bool false, .int .i64 0] 36) := ⟨_, rfl⟩
  have k0 : Keeps (fun _ => False) w w0 := by rw [hw0]; exact (Keeps.refl _ w).alloc _
  have hb : CL w0 w.heap.size Ro.zero.cells := by rw [hw0]; exact CL.made _ Ro.zero.cells _
  have hg := goOn_o (h.keep (by show 0 < 13; decide) k0 (fun e => e)) ha (fun W K => hs W (k0.trans K))
  go_enter Tryz.func32, Tryz.ntmps32
  go_wp2_with fail
  rw [← hw0]
  clear hw0
  refine (hf _ k0).mono ?_
  rintro e w1 ⟨rfl, rfl⟩
  go_wp2_with fail
  refine hg.mono ?_
  rintro e w2 ⟨rfl, k2⟩
  have hb2 := hb.keep (by show 0 < 26; decide) k2 (fun e => e)
  go_wp2_with (refine wpList_store_cl rfl 36 _ _ rfl w.heap.size 0 26 _ rfl rfl rfl hb2 (by show 26 ≤ 26; decide) i46 (all_oneCell_toArray (by simp [Ro.cells, Value.oneCell'])) ?_; intro w5 hb5 k5 _)
  refine bodyPost_ret (v := .tuple #[.agg Ro.zero.cells.toArray, .int .i64 80]) ?_ rfl ⟨rfl, (k0.trans k2).trans' k5 (fun _ _ e => e) (fun i hi e => by omega)⟩
  have hr := run_row (r := Ro.zero) hb5
  rw [results_cell_tmp rfl]
  simp [asAddr, hr, Result.andThen]
set_option maxHeartbeats 1600000 in
set_option maxRecDepth 1000000 in
theorem refuses_o (hs : Calls Tryz.prog 39 #[.pointer (some ⟨ab, 0, none⟩)] w fun e w' => e = .returned (.int .i64 3) ∧ w' = w) :
    Calls Tryz.prog 67 #[.pointer (some ⟨ab, 0, none⟩)] w fun e w' => e = .returned (.int .i64 80) ∧ w' = w := by
  go_enter Tryz.func67, Tryz.ntmps67
  go_wp2_with (go_at_call 39; refine hs.mono ?_; clear hs; rintro e w1 ⟨rfl, rfl⟩)
  go_ret
  exact ⟨rfl, rfl⟩
set_option maxHeartbeats 1600000 in
set_option maxRecDepth 1000000 in
theorem read_o (hs : Calls Tryz.prog 39 #[.pointer (some ⟨ab, 0, none⟩)] w fun e w' => e = .returned (.int .i64 3) ∧ w' = w) (ob : Int) :
    Calls Tryz.prog 59 #[.pointer (some ⟨ab, 0, none⟩), .int .i64 ob] w fun e w' => e = .returned (.int .i64 80) ∧ w' = w := by
  have hr : Calls Tryz.prog 82 #[.pointer (some ⟨ab, 0, none⟩), .int .i64 ob] w fun e w' => e = .returned (.int .i64 80) ∧ w' = w := by
    have hq := refuses_o hs
    go_enter Tryz.func82, Tryz.ntmps82
    go_wp2_with (go_at_call 67; refine hq.mono ?_; clear hq; rintro e w1 ⟨rfl, rfl⟩)
    go_ret
    exact ⟨rfl, rfl⟩
  clear hs
  go_enter Tryz.func59, Tryz.ntmps59
  go_wp2_with (go_at_call 82; refine hr.mono ?_; clear hr; rintro e w1 ⟨rfl, rfl⟩)
  go_ret
  exact ⟨rfl, rfl⟩
theorem FM.ao (h : FM w ρ lb u j B nd xs kr kd p P s m) (hQ : FQ kd t P s m) (hi : i < 4) (ha : (P i).T.a = some ab) {c' : Sc} {x' : Tx} (ao : AO w w' ρ ρ' u j (P i).c c' ab kd t (P i).x x' (P i).n (P i).f s s' m) :
    ∃ lb', FM w' ρ' lb' u j B nd xs kr kd p (fun k => if k = i then ⟨(P i).T, c', x', (P i).n, (P i).f⟩ else P k) s' m ∧ FQ kd t (fun k => if k = i then ⟨(P i).T, c', x', (P i).n, (P i).f⟩ else P k) s' m ∧ FL u j w w' ρ ρ' lb lb' := by
  have fa := h.ax i ab hi ha
  have S0 := h.S0
  have tc := h.tc i hi
  have pq := hQ.pt i hi
  have pa := pq.so ab ha
  have b1 := ao.res
  have sw : c'.wb = B.wb := b1.sam.wb.trans fa.wb
  have sm : c'.mb = B.mb := b1.sam.mb.trans fa.mb
  have no : ∀ k, ρ k = 0 → lb k ≠ 20 + i → ¬ (Sr u j (ρ k) ∨ Own (P i).c ab k) := fun k hr hl e => e.elim (fun e => S0 (by rw [hr] at e; exact e)) (fun e => hl (fa.lb k e))
  have st := b1.ax.st
  rw [sw, sm] at st
  obtain ⟨lb1, F1, L1⟩ := h.step hi b1.fr (fun k _ e => .inl (fa.lb k e)) st (h.dr.keep b1.fr.keeps (no _ h.rd.1 (by rw [h.rd.2]; omega)) (no _ h.rr.1 (by rw [h.rr.2.1]; omega))) (p' := ⟨(P i).T, c', x', (P i).n, (P i).f⟩) (tc.1.keep (by show 0 < 13; decide) b1.fr.keeps (no _ tc.2.1 (by rw [tc.2.2]; omega))) (fun ab' e => by
    have e : (P i).T.a = some ab' := e
    rw [ha] at e
    cases e
    exact ⟨b1.ax, fun k hk => by
      rcases hk with e | e
      · exact .inl (fa.lb k (.inl e))
      · exact (b1.bk k e).imp (fun e => fa.lb k (.inr e)) id, sm, sw, b1.sam.gb.trans fa.gb, b1.sam.db.trans fa.db⟩)
  have q := ao.sm
  have l := ao.ln
  have hN : ∀ q i, q < m.cells.length → s.atts.length ≤ i → i < s'.atts.length → (s'.att i).status ≠ q ∧ (s'.att i).flag ≠ q := fun q i _ h1 h2 => by omega
  have q2 : FQ kd t (fun k => if k = i then ⟨(P i).T, c', x', (P i).n, (P i).f⟩ else P k) s' m := by
    refine hQ.upd hi ao.gw ao.pv hN (Nat.le_refl t) (fun k a hk hne hka => ⟨(hQ.dj k i a ab hk hi hne hka ha).1, fun _ _ e => e⟩) ⟨pq.th, pq.jb, pq.tr, pq.no, fun ab' _ => ?_⟩ (fun k a b hk hne _ hb => ?_)
    · obtain ⟨c, e, h0, hc, hf, hv⟩ := pa.rk
      exact ⟨ao.gx, q.2.1.trans pa.th, q.2.2.1.trans pa.st, q.2.2.2.1.trans pa.pr, pa.tr, by have := pa.ln; show c'.rs.length ≤ t ∧ (P i).n ≤ t; omega, fun e => q.2.2.2.2.2.trans (pa.oc e), ⟨c, q.2.2.2.1.trans e, h0, hc, hf.grw ao.gw (fun l => hN c l hc), hv.trans q.2.2.2.2.1.symm⟩, fun e => q.2.2.2.2.1.trans (pa.kp e)⟩
    · have d := hQ.dj i k ab b hi hk (fun e => hne e.symm) ha hb
      exact ⟨by show x'.no ≠ _; rw [q.1]; exact d.1, by show x'.prio ≠ _; rw [q.2.2.2.1]; exact d.2⟩
  exact ⟨lb1, F1, q2, L1⟩
end
end Go.Proofs.YtgjndhbfjofkeaaGreatDoor

