import Derived.Test.YtgjndhbfjofkeaaGreatDoorG30
import Derived.Test.YtgjndhbfjofkeaaGreatDoorG08
namespace Go.Proofs.YtgjndhbfjofkeaaGreatDoor
open Go.RowKit
attribute [local go_sem] Oper.semAt_some run_store_nf run_store_f
structure AS (p p' : Pt) (s s' : Ws) : Prop where
  T : p'.T = p.T
  f : p'.f = p.f
  n : p'.n = p.n
  no : p'.x.no = p.x.no
  rk : p'.x.rank = p.x.rank
  st : p'.x.stamp = p.x.stamp
  pr : p'.x.prio = p.x.prio
  al : p'.x.alive = p.x.alive
  ln : s'.locs.length = s.locs.length ∧ s'.atts.length = s.atts.length ∧ s'.objs = s.objs
section
variable {w w' w'' : World} {ρ ρ' ρ'' lb lb' lb'' : Nat → Nat} {u j ab tb mb wb gb db : Nat} {T : Tr} {B : Bk} {nd kr kr' kd t i : Nat} {xs : Nat → Int} {p : Int} {P : Nat → Pt} {s s' : Ws} {m m' : Mm} {x : Tx} {c : Sc}
set_option maxHeartbeats 1600000 in
set_option maxRecDepth 1000000 in
theorem t_put (h : CL w tb (T.cells mb wb gb db)) (hfr : ∀ W, Keeps (fun _ => False) w W → Calls Tryz.prog 46 #[.pointer (some ⟨tb, 0, none⟩)] W fun e w' => e = .returned (.bool false) ∧ w' = W) {q : Option Addr} (ha : apv T.a = .pointer q) (ob : Int) (v : Vl) {k : Int} {Q : World → World → Prop} (hs : ∀ W, Keeps (fun _ => False) w W → Calls Tryz.prog 89 #[.pointer q, .int .i64 ob, .agg #[.int .i64 v.num, .int .i64 v.next, .bool v.dead]] W fun e w' => e = .returned (.int .i64 k) ∧ Q W w' ∧ Keeps (fun k => k < w.heap.size) W w') : Calls Tryz.prog 62 #[.pointer (some ⟨tb, 0, none⟩), .int .i64 ob, .agg #[.int .i64 v.num, .int .i64 v.next, .bool v.dead]] w fun e w' => e = .returned (.int .i64 k) ∧ ∃ W, Keeps (fun _ => False) w W ∧ Q W w' := by
  obtain ⟨w0, hw0⟩ : ∃ w0, w0 = w.alloc (.cells #[.int .i64 v.num, .int .i64 v.next, .bool v.dead] 34) := ⟨_, rfl⟩
  have k0 : Keeps (fun _ => False) w w0 := by rw [hw0]; exact (Keeps.refl _ w).alloc _
  have hb : CL w0 w.heap.size [.int .i64 v.num, .int .i64 v.next, .bool v.dead] := by rw [hw0]; exact CL.made _ [.int .i64 v.num, .int .i64 v.next, .bool v.dead] _
  have hf := hfr w0 k0
  have KD := k0.drew
  have hi := t_present (h.keep (by show 0 < 13; decide) KD (fun e => e))
  rw [ha] at hi
  have hp := hs _ KD
  have hbd := hb.drew
  have b0 := hbd.c 0 _ rfl
  have b1 := hbd.c 1 _ rfl
  have b2 := hbd.c 2 _ rfl
  have nl : ¬ w.heap.size < w.heap.size := Nat.lt_irrefl _
  clear h ha hs hfr
  go_enter Tryz.func62, Tryz.ntmps62
  go_wp2_with (first | (go_at_call 46; rw [← hw0]; clear hw0; refine hf.mono ?_; rintro e w1 ⟨rfl, rfl⟩))
  clear hf hb k0
  go_region_held3 (fun w' => w'.cell? ⟨w.heap.size, 0, none⟩ = some (.int .i64 v.num) ∧ w'.cell? ⟨w.heap.size, 1, none⟩ = some (.int .i64 v.next) ∧ w'.cell? ⟨w.heap.size, 2, none⟩ = some (.bool v.dead)) (first | (go_keep; done) | exact KZ) (first | (go_at_call 36; refine (hi).mono ?_; rintro e w1 ⟨rfl, rfl⟩) | (go_at_call 89; refine hp.mono ?_; rintro e w2 ⟨rfl, hQ, kP⟩; have KZ := And.intro (kP.cell (p := ⟨w.heap.size, 0, none⟩) b0 nl) (And.intro (kP.cell (p := ⟨w.heap.size, 1, none⟩) b1 nl) (kP.cell (p := ⟨w.heap.size, 2, none⟩) b2 nl))))
  go_wp2_with fail
  go_ret
  exact ⟨rfl, _, KD, hQ⟩
theorem ao_as {c' : Sc} {x' : Tx} (ao : AO w w' ρ ρ' u j (P i).c c' ab kd t (P i).x x' (P i).n (P i).f s s' m) : AS (P i) ⟨(P i).T, c', x', (P i).n, (P i).f⟩ s s' := by
  have q := ao.sm
  exact ⟨rfl, rfl, rfl, q.1, q.2.2.2.2.1, q.2.2.1, q.2.2.2.1, q.2.2.2.2.2, ao.ln.2.1, ao.ln.2.2, ao.gw.ob⟩
theorem FM.isF (h : FM w ρ lb u j B nd xs kr kd p P s m) (hi : i < 4) (ha : (P i).T.a = some ab) (hal : (P i).x.alive = true) (hoc : (P i).T.oc = 0) (hn : (P i).x.nx = none) (W : World) (K : Keeps (fun _ => False) w W) : Calls Tryz.prog 46 #[.pointer (some ⟨B.tb i, 0, none⟩)] W fun e w' => e = .returned (.bool false) ∧ w' = W :=
  h.fresh hi (k := 1) (by unfold Tr.state Tx.state; rw [if_pos hoc, ha, hal, hn]; rfl) W K
theorem f_read (h : FM w ρ lb u j B nd xs kr kd p P s m) (hQ : FQ kd t P s m) (hi : i < 4) (ha : (P i).T.a = some ab) (hal : (P i).x.alive = true) (hoc : (P i).T.oc = 0) (hn : (P i).x.nx = none) {o : Nat} (ho : o < s.objs.length) :
    Calls Tryz.prog 33 #[.pointer (some ⟨B.tb i, 0, none⟩), .int .i64 (o : Int)] w fun e w' => e = .returned (.int .i64 0) ∧ ∃ p' s' ρ' lb', FM w' ρ' lb' u j B nd xs kr kd p (fun k => if k = i then p' else P k) s' m ∧ FQ kd t (fun k => if k = i then p' else P k) s' m ∧ FL u j w w' ρ ρ' lb lb' ∧ AS (P i) p' s s' := by
  have fa := h.ax i ab hi ha
  have pa := (hQ.pt i hi).so ab ha
  have hf := h.isF hi ha hal hoc hn w (Keeps.refl _ w)
  have tc := h.tc i hi
  refine (t_read tc.1 hf (q := some ⟨ab, 0, none⟩) (by rw [ha]; rfl) (o : Int) (Q := fun w' => ∃ x', AO w w' ρ ρ u j (P i).c (P i).c ab kd t (P i).x x' (P i).n (P i).f s s m) (ask_read fa.ax hQ.pv pa.gx hal hn ho)).mono ?_
  rintro e w' ⟨rfl, x', ao⟩
  obtain ⟨lb1, F1, q1, L1⟩ := h.ao hQ hi ha ao
  exact ⟨rfl, _, _, _, _, F1, q1, L1, ao_as ao⟩
theorem f_write (h : FM w ρ lb u j B nd xs kr kd p P s m) (hQ : FQ kd t P s m) (hi : i < 4) (ha : (P i).T.a = some ab) (hal : (P i).x.alive = true) (hoc : (P i).T.oc = 0) (hn : (P i).x.nx = none) {o : Nat} (ho : o < s.objs.length) :
    Calls Tryz.prog 60 #[.pointer (some ⟨B.tb i, 0, none⟩), .int .i64 (o : Int)] w fun e w' => e = .returned (.int .i64 0) ∧ ∃ p' s' ρ' lb', FM w' ρ' lb' u j B nd xs kr kd p (fun k => if k = i then p' else P k) s' m ∧ FQ kd t (fun k => if k = i then p' else P k) s' m ∧ FL u j w w' ρ ρ' lb lb' ∧ AS (P i) p' s s' := by
  have fa := h.ax i ab hi ha
  have pa := (hQ.pt i hi).so ab ha
  have hf := h.isF hi ha hal hoc hn w (Keeps.refl _ w)
  have tc := h.tc i hi
  refine (t_write tc.1 hf (q := some ⟨ab, 0, none⟩) (by rw [ha]; rfl) (o : Int) (Q := fun w' => ∃ x', AO w w' ρ ρ u j (P i).c (P i).c ab kd t (P i).x x' (P i).n (P i).f s s m) (ask_write fa.ax hQ.pv pa.gx hal hn ho)).mono ?_
  rintro e w' ⟨rfl, x', ao⟩
  obtain ⟨lb1, F1, q1, L1⟩ := h.ao hQ hi ha ao
  exact ⟨rfl, _, _, _, _, F1, q1, L1, ao_as ao⟩
theorem f_finish (h : FM w ρ lb u j B nd xs kr kd p P s m) (hQ : FQ kd t P s m) (hi : i < 4) (ha : (P i).T.a = some ab) (hal : (P i).x.alive = true) (hoc : (P i).T.oc = 0) (hn : (P i).x.nx = none) :
    Calls Tryz.prog 27 #[.pointer (some ⟨B.tb i, 0, none⟩)] w fun e w' => e = .returned (.int .i64 0) ∧ ∃ p' s' ρ' lb', FM w' ρ' lb' u j B nd xs kr kd p (fun k => if k = i then p' else P k) s' m ∧ FQ kd t (fun k => if k = i then p' else P k) s' m ∧ FL u j w w' ρ ρ' lb lb' ∧ AS (P i) p' s s' := by
  have fa := h.ax i ab hi ha
  have pa := (hQ.pt i hi).so ab ha
  have hf := h.isF hi ha hal hoc hn w (Keeps.refl _ w)
  have tc := h.tc i hi
  refine (t_finish tc.1 hf (q := some ⟨ab, 0, none⟩) (by rw [ha]; rfl) (Q := fun w' => ∃ x', AO w w' ρ ρ u j (P i).c (P i).c ab kd t (P i).x x' (P i).n (P i).f s s m) (ask_finish fa.ax hQ.pv pa.gx hal hn)).mono ?_
  rintro e w' ⟨rfl, x', ao⟩
  obtain ⟨lb1, F1, q1, L1⟩ := h.ao hQ hi ha ao
  exact ⟨rfl, _, _, _, _, F1, q1, L1, ao_as ao⟩
theorem f_quit (h : FM w ρ lb u j B nd xs kr kd p P s m) (hQ : FQ kd t P s m) (hi : i < 4) (ha : (P i).T.a = some ab) (hal : (P i).x.alive = true) (hoc : (P i).T.oc = 0) (hn : (P i).x.nx = none) :
    Calls Tryz.prog 63 #[.pointer (some ⟨B.tb i, 0, none⟩), .int .i64 2] w fun e w' => e = .returned (.int .i64 0) ∧ ∃ p' s' ρ' lb', FM w' ρ' lb' u j B nd xs kr kd p (fun k => if k = i then p' else P k) s' m ∧ FQ kd t (fun k => if k = i then p' else P k) s' m ∧ FL u j w w' ρ ρ' lb lb' ∧ AS (P i) p' s s' := by
  have fa := h.ax i ab hi ha
  have pa := (hQ.pt i hi).so ab ha
  have hf := h.isF hi ha hal hoc hn w (Keeps.refl _ w)
  have tc := h.tc i hi
  refine (t_quit tc.1 hf (q := some ⟨ab, 0, none⟩) (by rw [ha]; rfl) 2 (Q := fun w' => ∃ x', AO w w' ρ ρ u j (P i).c (P i).c ab kd t (P i).x x' (P i).n (P i).f s s m) (ask_quit fa.ax hQ.pv pa.gx hal hn)).mono ?_
  rintro e w' ⟨rfl, x', ao⟩
  obtain ⟨lb1, F1, q1, L1⟩ := h.ao hQ hi ha ao
  exact ⟨rfl, _, _, _, _, F1, q1, L1, ao_as ao⟩
set_option maxHeartbeats 1600000 in
set_option maxRecDepth 1000000 in
theorem t_release_of (h : CL w tb (T.cells mb wb gb db)) (hfr : Calls Tryz.prog 46 #[.pointer (some ⟨tb, 0, none⟩)] w fun e w' => e = .returned (.bool false) ∧ w' = w) {q : Option Addr} (ha : apv T.a = .pointer q) (ob : Int) {Q : World → Prop} (hs : Calls Tryz.prog 88 #[.pointer q, .int .i64 ob] w fun e w' => ∃ k : Int, e = .returned (.tuple #[.int .i64 k, .int .i64 0]) ∧ Q w') : Calls Tryz.prog 61 #[.pointer (some ⟨tb, 0, none⟩), .int .i64 ob] w fun e w' => ∃ k : Int, e = .returned (.tuple #[.int .i64 k, .int .i64 0]) ∧ Q w' := by
  have hi := t_present h
  rw [ha] at hi
  clear h ha
  go_enter Tryz.func61, Tryz.ntmps61
  go_wp2_with (first | (go_at_call 46; refine (hfr).mono ?_; rintro e w1 ⟨rfl, rfl⟩) | (go_at_call 36; refine (hi).mono ?_; rintro e w1 ⟨rfl, rfl⟩) | (go_at_call 88; refine hs.mono ?_; rintro e w2 ⟨k, rfl, hQ⟩))
  refine bodyPost_ret (v := .tuple #[.int .i64 k, .int .i64 0]) (by simp [results, Tryz.f61, go_sem]) rfl ?_
  exact ⟨k, rfl, hQ⟩
theorem f_release (h : FM w ρ lb u j B nd xs kr kd p P s m) (hQ : FQ kd t P s m) (hi : i < 4) (ha : (P i).T.a = some ab) (hal : (P i).x.alive = true) (hoc : (P i).T.oc = 0) (hn : (P i).x.nx = none) {o : Nat} (ho : o < s.objs.length) (ht : t ≤ 1000000) :
    Calls Tryz.prog 61 #[.pointer (some ⟨B.tb i, 0, none⟩), .int .i64 (o : Int)] w fun e w' => (∃ q : Int, e = .returned (.tuple #[.int .i64 q, .int .i64 0])) ∧ ∃ p' s' ρ' lb', FM w' ρ' lb' u j B nd xs kr kd p (fun k => if k = i then p' else P k) s' m ∧ FQ kd t (fun k => if k = i then p' else P k) s' m ∧ FL u j w w' ρ ρ' lb lb' ∧ AS (P i) p' s s' := by
  have fa := h.ax i ab hi ha
  have pa := (hQ.pt i hi).so ab ha
  have hf := h.isF hi ha hal hoc hn w (Keeps.refl _ w)
  have tc := h.tc i hi
  refine (t_release_of tc.1 hf (q := some ⟨ab, 0, none⟩) (by rw [ha]; rfl) (o : Int) (Q := fun w' => ∃ c', AO w w' ρ ρ u j (P i).c c' ab kd t (P i).x (P i).x (P i).n (P i).f s s m) (ask_release fa.ax hQ.pv pa.gx hal hn ho (by have := pa.ln; omega))).mono ?_
  rintro e w' ⟨q, rfl, c', ao⟩
  obtain ⟨lb1, F1, q1, L1⟩ := h.ao hQ hi ha ao
  exact ⟨⟨q, rfl⟩, _, _, _, _, F1, q1, L1, ao_as ao⟩
end
end Go.Proofs.YtgjndhbfjofkeaaGreatDoor

namespace Go.Proofs.YtgjndhbfjofkeaaGreatDoor
open Go.RowKit
attribute [local go_sem] Oper.semAt_some run_store_nf run_store_f
section
variable {w w' w'' : World} {ρ ρ' ρ'' lb lb' lb'' : Nat → Nat} {u j ab tb mb wb gb db : Nat} {T : Tr} {B : Bk} {nd kr kr' kd t i : Nat} {xs : Nat → Int} {p : Int} {P : Nat → Pt} {s s' : Ws} {m m' : Mm} {x : Tx} {c : Sc}
theorem f_put (h : FM w ρ lb u j B nd xs kr kd p P s m) (hQ : FQ kd t P s m) (hi : i < 4) (ha : (P i).T.a = some ab) (hal : (P i).x.alive = true) (hoc : (P i).T.oc = 0) (hn : (P i).x.nx = none) {o : Nat} (ho : o < s.objs.length) (v : Vl) :
    Calls Tryz.prog 62 #[.pointer (some ⟨B.tb i, 0, none⟩), .int .i64 (o : Int), .agg #[.int .i64 v.num, .int .i64 v.next, .bool v.dead]] w fun e w' => e = .returned (.int .i64 (if ((P i).f (o : Int)).isSome = true then 0 else 83)) ∧ ∃ p' s' ρ' lb', FM w' ρ' lb' u j B nd xs kr kd p (fun k => if k = i then p' else P k) s' m ∧ FQ kd t (fun k => if k = i then p' else P k) s' m ∧ FL u j w w' ρ ρ' lb lb' ∧ AS (P i) p' s s' := by
  have tc := h.tc i hi
  have pa := (hQ.pt i hi).so ab ha
  refine (t_put tc.1 (fun W K => h.isF hi ha hal hoc hn W K) (q := some ⟨ab, 0, none⟩) (by rw [ha]; rfl) (o : Int) v (k := if ((P i).f (o : Int)).isSome = true then 0 else 83) (Q := fun W w' => ∃ s' ρ', AO W w' ρ ρ' u j (P i).c (P i).c ab kd t (P i).x (P i).x (P i).n (P i).f s s' m) (fun W K => ?_)).mono ?_
  · have h0 := h.new K
    have fa := h.ax i ab hi ha
    refine (ask_put (h0.ax i ab hi ha).ax hQ.pv pa.gx hal hn ho v).mono ?_
    rintro e w' ⟨s', ρ', rfl, ao⟩
    refine ⟨rfl, ⟨s', ρ', ao⟩, ao.res.fr.keeps.mono (fun k _ e => ?_)⟩
    rcases Nat.lt_or_ge k w.heap.size with hk | hk
    · exact hk
    · rcases e with e | e
      · rw [h.st.bnd k hk] at e; exact absurd e h.S0
      · exact fa.ax.olt e
  · rintro e w' ⟨rfl, W, K, s', ρ', ao⟩
    obtain ⟨lb1, F1, q1, L1⟩ := (h.new K).ao hQ hi ha ao
    exact ⟨rfl, _, _, _, _, F1, q1, (FL.new K ρ lb).trans L1, ao_as ao⟩
theorem f_owns (h : FM w ρ lb u j B nd xs kr kd p P s m) (hi : i < 4) (ha : (P i).T.a = some ab) {o : Int} (ho : I64 o) :
    Calls Tryz.prog 23 #[.pointer (some ⟨B.tb i, 0, none⟩), .int .i64 o] w fun e w' => e = .returned (.bool ((P i).f o).isSome) ∧ w' = w :=
  t_owns (h.tc i hi).1 (q := some ⟨ab, 0, none⟩) (by rw [ha]; rfl) o (owns_any (h.ax i ab hi ha).ax ho)
set_option maxHeartbeats 1600000 in
set_option maxRecDepth 1000000 in
theorem num_r (w : World) (k : Int) : Calls Tryz.prog 12 #[.int .i64 k] w fun e w' => e = .returned (.int .i64 k) ∧ w' = w := by
  go_enter Tryz.func12, Tryz.ntmps12
  go_wp2
  go_ret
  exact ⟨rfl, rfl⟩
set_option maxHeartbeats 1600000 in
set_option maxRecDepth 1000000 in
theorem rest_any (w : World) (k n : Int) (hn : 0 < n ∧ n ≤ 8) : Calls Tryz.prog 10 #[.int .i64 k, .int .i64 n] w fun e w' => e = .returned (.int .i64 (k % n)) ∧ w' = w := by
  have e := Int.tmod_eq_emod (a := k) (b := n)
  have m1 := Int.emod_nonneg k (show n ≠ 0 by omega)
  have m2 := Int.emod_lt_of_pos k hn.1
  obtain ⟨t, et, b1⟩ : ∃ t, k.tmod n = t ∧ (t = k % n ∨ t = k % n - n) := ⟨_, rfl, by rw [e]; split <;> omega⟩
  clear e
  have h0 : ¬ n = 0 := by omega
  have hz : (n == 0) = false := by simp; omega
  by_cases hs : t < 0
  · have ew : wrap64 (t + n) = k % n := by rw [wrap_id (by unfold In64; omega)]; omega
    clear b1 m1 m2
    go_enter Tryz.func10, Tryz.ntmps10
    go_wp2
    go_ret
    exact ⟨by rw [← ew]; rfl, rfl⟩
  · obtain rfl : t = k % n := by omega
    clear b1 m1 m2
    go_enter Tryz.func10, Tryz.ntmps10
    go_wp2
    go_ret
    exact ⟨rfl, rfl⟩
end
end Go.Proofs.YtgjndhbfjofkeaaGreatDoor

namespace Go.Proofs.YtgjndhbfjofkeaaGreatDoor
open Go.RowKit
attribute [local go_sem] Oper.semAt_some run_store_nf run_store_f
def fcell (B : Bk) (n st : Int) : List Value :=
  [.pointer (some ⟨B.mb, 0, none⟩), .pointer (some ⟨B.wb, 0, none⟩), .pointer (some ⟨B.gb, 0, none⟩), .pointer (some ⟨B.db, 0, none⟩), .int .i64 n, .pointer (some ⟨B.tb 0, 0, none⟩), .pointer (some ⟨B.tb 1, 0, none⟩), .pointer (some ⟨B.tb 2, 0, none⟩), .pointer (some ⟨B.tb 3, 0, none⟩), .int .i64 st]
structure FD (w : World) (ρ lb : Nat → Nat) (B : Bk) (fb : Nat) (n st : Int) : Prop where
  cl : CL w fb (fcell B n st)
  r : ρ fb = 0
  l : lb fb = 0
section
variable {w w' w'' : World} {ρ ρ' ρ'' lb lb' lb'' : Nat → Nat} {u j ab fb : Nat} {n st : Int} {B : Bk} {nd kr kr' kd t i : Nat} {xs : Nat → Int} {p : Int} {P : Nat → Pt} {s s' : Ws} {m m' : Mm}
theorem FD.fl (h : FD w ρ lb B fb n st) (S0 : ¬ Sr u j 0) (L : FL u j w w' ρ ρ' lb lb') : FD w' ρ' lb' B fb n st := by
  have lt := h.cl.lt (by show 0 < 10; decide)
  have q := L.old fb lt
  exact ⟨h.cl.keep (by show 0 < 10; decide) L.keeps (fun e => e.elim (fun e => S0 (by rw [h.r] at e; exact e)) (fun e => by rw [h.l] at e; omega)), q.1.trans h.r, q.2.trans h.l⟩
theorem FM.mem (h : FM w ρ lb u j B nd xs kr kd p P s m) (st : St w' ρ' u j B.wb B.mb s m') (x : Ext (Sr u j) w w' ρ ρ') : ∃ lb', FM w' ρ' lb' u j B nd xs kr kd p P s m' ∧ FL u j w w' ρ ρ' lb lb' := by
  have S0 := h.S0
  have fr : Fr (fun _ => False) u j w w' ρ ρ' := Fr.of_ext x
  have no : ∀ k, ρ k = 0 → ¬ (Sr u j (ρ k) ∨ False) := fun k hr e => e.elim (fun e => S0 (by rw [hr] at e; exact e)) id
  have tc := h.tc 0 (by decide)
  obtain ⟨lb1, F1, L1⟩ := h.step (i := 0) (by decide) fr (fun _ _ e => e.elim) st (h.dr.keep fr.keeps (no _ h.rd.1) (no _ h.rr.1)) (p' := P 0) (tc.1.keep (by show 0 < 13; decide) fr.keeps (no _ tc.2.1)) (fun ab ha => by
    have fa := h.ax 0 ab (by decide) ha
    exact ⟨fa.ax.run (by rw [fa.wb, fa.mb]; exact st) x, fun k hk => .inl (fa.lb k hk), fa.mb, fa.wb, fa.gb, fa.db⟩)
  refine ⟨lb1, ?_, L1⟩
  have e : (fun k => if k = 0 then P 0 else P k) = P := by funext k; by_cases e : k = 0 <;> simp [e]
  rw [e] at F1
  exact F1
structure FB (t : Nat) (s : Ws) (m : Mm) (st : Int) : Prop where
  at_ : s.atts.length ≤ 2 + t
  ce : m.cells.length ≤ 40 + 3 * t
  lg : m.log.length ≤ t
  lo : s.locs.length ≤ 10 + t
  sp : m.begun = true → m.step < st
  s0 : 0 ≤ st ∧ st ≤ (t : Int)
theorem FM.begin (h : FM w ρ lb u j B nd xs kr kd p P s m) (hB : FB t s m st) (i : Nat) :
    Calls Tryz.prog 48 #[.pointer (some ⟨B.mb, 0, none⟩), .int .i64 st, .int .i64 (i : Int)] w fun e w' => e = .returned (.int .i64 0) ∧ ∃ ρ' lb', FM w' ρ' lb' u j B nd xs kr kd p P s (m.begin st (i : Int)) ∧ FL u j w w' ρ ρ' lb lb' := by
  refine (sbegin h.st st (i : Int) ?_).mono ?_
  · have a := hB.s0.1
    have b := hB.sp
    unfold Mm.may
    cases hb : m.begun with
    | false => simp; omega
    | true => have := b hb; simp; omega
  · rintro e w' ⟨rfl, ρ1, hs, x⟩
    obtain ⟨lb1, F1, L1⟩ := h.mem hs x
    exact ⟨rfl, ρ1, lb1, F1, L1⟩
theorem FB.si {p0 p' : Pt} {r : Ro} (hB : FB t s m st) (hs : SI kd t i p0 p' s (m.begin st (i : Int)) r s' m') : FB (t + 1) s' m' (st + 1) := by
  have a := hB.at_
  have b := hB.ce
  have c := hB.lg
  have d := hB.lo
  have f := hB.s0
  have z1 : (m.begin st (i : Int)).cells = m.cells := rfl
  have z2 : (m.begin st (i : Int)).log = m.log := rfl
  cases hs with
  | begin ab c a e hc hp hs hm =>
    subst hs hm
    refine ⟨by simp [Ws.beg]; omega, by simp [Mm.len_make, Mm.len_bump, z1]; omega, ?_, by show s.locs.length ≤ _; omega, fun _ => ?_, by omega⟩
    · show ((m.begin st (i : Int)).bump 0).log.length ≤ _
      rw [log_bump, z2]; omega
    · show st < st + 1
      omega
  | again ab0 ab q c a d hq e hc hp hs hm =>
    subst hs hm
    refine ⟨by simp [Ws.beg]; omega, by simp [Mm.len_make, z1]; omega, ?_, by show s.locs.length ≤ _; omega, fun _ => ?_, by omega⟩
    · show m.log.length ≤ _
      omega
    · show st < st + 1
      omega
  | go ab r0 a al e hT sp po =>
    have l := po.ln
    rw [z1, z2] at l
    refine ⟨by omega, by omega, by omega, by omega, fun _ => ?_, by omega⟩
    have q := sp.1
    have : (m.begin st (i : Int)).step = st := rfl
    omega
end
end Go.Proofs.YtgjndhbfjofkeaaGreatDoor

namespace Go.Proofs.YtgjndhbfjofkeaaGreatDoor
open Go.RowKit Go.Maps Go.ChangeMaps Go.MapKept Go.WideShapes
attribute [local go_sem] Oper.semAt_some run_store_nf run_store_f
def ovs (z : Nat → Int) (n : Nat) : List Vl := (List.range n).map fun i => ⟨z i, 0, false⟩
def om (f s : Int) : Mm := (Mm.new.make f).make s
theorem ni_lo (vs : List Vl) (c : Nat) {k i : Nat} (hi : i < k) : (nw vs c k).lo i = ⟨0, i, i, true⟩ := by simp [Ws.lo, nw, List.getD_eq_getElem?_getD, hi]
theorem ni_ob (vs : List Vl) (c : Nat) {k i : Nat} (hi : i < k) : (nw vs c k).ob i = c + 2 + i := by simp [Ws.ob, nw, List.getD_eq_getElem?_getD, hi]
theorem ni_att (vs : List Vl) (c k : Nat) : (nw vs c k).att 0 = ⟨-1, -1, -1, c, c + 1⟩ := by simp [Ws.att, nw]
theorem ni_val0 (m : Mm) (k : Nat) : (nm m k).val m.cells.length = 2 := by
  show (ca (m.cells ++ [(2, 2), (0, 0)] ++ _) m.cells.length).2 = 2
  simp [ca, List.getD_eq_getElem?_getD]
theorem ni_val1 (m : Mm) (k : Nat) : (nm m k).val (m.cells.length + 1) = 0 := by
  show (ca (m.cells ++ [(2, 2), (0, 0)] ++ _) (m.cells.length + 1)).2 = 0
  simp [ca, List.getD_eq_getElem?_getD]
theorem ni_valb (m : Mm) (k : Nat) {c : Nat} (hc : c < m.cells.length) : (nm m k).val c = m.val c := by
  show (ca (m.cells ++ [(2, 2), (0, 0)] ++ _) c).2 = (ca m.cells c).2
  have e : (m.cells ++ [((2 : Int), (2 : Int)), (0, 0)] ++ (List.range k).map fun (i : Nat) => ((i : Int), (i : Int)))[c]? = m.cells[c]? := by
    rw [List.append_assoc, List.getElem?_append_left hc]
  simp only [ca, List.getD_eq_getElem?_getD, e]
theorem ni_val (m : Mm) {k i : Nat} (hi : i < k) : (nm m k).val (m.cells.length + 2 + i) = (i : Int) := by
  show (ca (m.cells ++ [(2, 2), (0, 0)] ++ (List.range k).map fun (i : Nat) => ((i : Int), (i : Int))) (m.cells.length + 2 + i)).2 = (i : Int)
  have e : (m.cells ++ [((2 : Int), (2 : Int)), (0, 0)] ++ (List.range k).map fun (i : Nat) => ((i : Int), (i : Int)))[m.cells.length + 2 + i]? = some ((i : Int), (i : Int)) := by
    rw [List.getElem?_append_right (by simp)]
    simp [hi]
  simp only [ca, List.getD_eq_getElem?_getD, e, Option.getD_some]
theorem ni_inv (vs : List Vl) (m : Mm) (h80 : vs.length ≤ 80) : Inv (nw vs m.cells.length vs.length) (nm m vs.length) := by
  have el : (nw vs m.cells.length vs.length).locs.length = vs.length := by simp [nw]
  have eo : (nw vs m.cells.length vs.length).objs.length = vs.length := by simp [nw]
  have ea : (nw vs m.cells.length vs.length).atts.length = 1 := by simp [nw]
  have ev : (nw vs m.cells.length vs.length).vals.length = vs.length := by simp [nw]
  have en := nm_len m vs.length
  have a0 : ∀ i, i < 1 → (nw vs m.cells.length vs.length).att i = ⟨-1, -1, -1, m.cells.length, m.cells.length + 1⟩ := fun i hi => by
    have : i = 0 := by omega
    rw [this]; exact ni_att _ _ _
  refine ⟨by rw [el, ev], fun i hi => ?_, fun i hi => ?_, fun i hi => ?_, fun i hi => ?_, by omega, by omega, by omega, by omega, ⟨fun k => if k = m.cells.length then 0 else if k = m.cells.length + 1 then 1 else 3 * (k - (m.cells.length + 2)) + 2, fun i hi => ?_, fun i hi => ?_⟩, ?_, fun i hi => ?_⟩
  · rw [el] at hi; rw [ni_lo _ _ hi, el, ea]; exact ⟨rfl, hi, Nat.zero_lt_one⟩
  · rw [ea] at hi; rw [a0 i hi, en]; exact ⟨by show m.cells.length < _; omega, by show m.cells.length + 1 < _; omega⟩
  · rw [eo] at hi; rw [ni_ob _ _ hi, en]; omega
  · rw [eo] at hi; rw [ni_ob _ _ hi, el]; exact ⟨i, ni_val m hi, hi, by rw [ni_lo _ _ hi]⟩
  · rw [ea] at hi; rw [a0 i hi]
    have : i = 0 := by omega
    subst this
    simp
  · rw [eo] at hi; rw [ni_ob _ _ hi]
    have q1 : ¬ m.cells.length + 2 + i = m.cells.length := by omega
    have q2 : ¬ m.cells.length + 2 + i = m.cells.length + 1 := by omega
    simp only [if_neg q1, if_neg q2]; omega
  · rw [ni_att]; exact ni_val0 m _
  · rw [el] at hi; rw [ni_lo _ _ hi, ni_lo _ _ hi, ni_att]; exact ni_val0 m _
theorem ovs_len (z : Nat → Int) (n : Nat) : (ovs z n).length = n := by simp [ovs]
theorem om_len (f s : Int) : (om f s).cells.length = 2 := rfl
theorem ni_inv2 (z : Nat → Int) {n : Nat} (h8 : n ≤ 8) (f s : Int) : Inv (nw (ovs z n) 2 n) (nm (om f s) n) := by
  have h := ni_inv (ovs z n) (om f s) (by rw [ovs_len]; omega)
  rw [ovs_len, om_len] at h
  exact h
theorem ni_pv (z : Nat → Int) {n : Nat} (h8 : n ≤ 8) {f s : Int} (hf : In64 f) (hs : In64 s) : Pv (nw (ovs z n) 2 n) (nm (om f s) n) := by
  have ea : (nw (ovs z n) 2 n).atts.length = 1 := by simp [nw]
  have en := nm_len (om f s) n
  rw [om_len] at en
  refine ⟨ni_inv2 z h8 f s, fun i hi => ?_, fun i h1 hi => by omega, fun c hc => ?_, fun i hi => ?_⟩
  · obtain rfl : i = 0 := by omega
    rw [ni_att]; exact .inr (.inl (ni_val0 (om f s) n))
  · rcases (by omega : c < 2 ∨ c = 2 ∨ c = 2 + 1 ∨ 4 ≤ c) with h | h | h | h
    · rw [ni_valb (om f s) n (by rw [om_len]; exact h)]
      rcases (by omega : c = 0 ∨ c = 1) with e | e <;> subst e
      · exact hf
      · exact hs
    · have := ni_val0 (om f s) n; rw [om_len] at this; rw [h, this]; unfold In64; omega
    · have := ni_val1 (om f s) n; rw [om_len] at this; rw [h, this]; unfold In64; omega
    · have := ni_val (om f s) (k := n) (i := c - 4) (by omega)
      rw [om_len, show 2 + 2 + (c - 4) = c by omega] at this
      rw [this]; unfold In64; omega
  · obtain rfl : i = 0 := by omega
    rw [ni_att]; show In64 (-1); unfold In64; omega
theorem ni_fre (z : Nat → Int) (n : Nat) : Fre (nw (ovs z n) 2 n) 0 := by
  refine ⟨fun i hi => ?_, fun i hi => ?_⟩
  · have ea : (nw (ovs z n) 2 n).atts.length = 1 := by simp [nw]
    obtain rfl : i = 0 := by omega
    rw [ni_att]; exact ⟨by decide, by decide⟩
  · rw [ni_ob _ _ (by simpa [nw] using hi)]; omega
def pt0 (i : Nat) : Pt := ⟨⟨(i : Int), 10 + (i : Int), -1, -1, 0, 0, none⟩, ⟨0, 0, 0, 0, .bool false, none, .bool false, 0, []⟩, ⟨0, 0, 0, 0, 0, false, false, none, 0, 0, 0, 0, 0, 0, 0, 0, 0, 0, 0, 0, 0, 0, none, 0, 0, 0, 0, none⟩, 0, fun _ => none⟩
theorem fq0 (kd : Nat) (z : Nat → Int) {n : Nat} (h8 : n ≤ 8) {f s : Int} (hf : In64 f) (hs : In64 s) : FQ kd 0 pt0 (nw (ovs z n) 2 n) (nm (om f s) n) := by
  have en := nm_len (om f s) n
  refine ⟨ni_pv z h8 hf hs, by rw [en]; omega, ni_fre z n, fun i hi => ⟨rfl, rfl, ⟨Int.le_refl _, Int.le_refl _⟩, fun _ => ⟨rfl, rfl, rfl⟩, fun ab ha => (by cases ha)⟩, fun i k a b _ _ _ ha _ => (by cases ha)⟩
theorem fb0 (z : Nat → Int) {n : Nat} (h8 : n ≤ 8) (f s : Int) : FB 0 (nw (ovs z n) 2 n) (nm (om f s) n) 0 := by
  have en := nm_len (om f s) n
  rw [om_len] at en
  refine ⟨by simp [nw], by omega, by simp [nm, om, Mm.make, Mm.new], by simp [nw]; omega, fun e => ?_, by omega⟩
  cases e
end Go.Proofs.YtgjndhbfjofkeaaGreatDoor

namespace Go.Proofs.YtgjndhbfjofkeaaGreatDoor
open Go.RowKit Go.Maps Go.ChangeMaps Go.MapKept Go.WideShapes
attribute [local go_sem] Oper.semAt_some run_store_nf run_store_f
structure SC (w : World) (mb wb gb db g : Nat) (kd : Nat) (p : Int) (n : Nat) (z : Nat → Int) (f s : Int) (dl : Nat) (xs : Nat → Int) (W : World) : Prop where
  st : ∃ ρ, St W ρ 1 2 wb mb (nw (ovs z n) 2 n) (nm (om f s) n) ∧ (∀ k, k < w.heap.size → ρ k = 0) ∧ ρ gb = 0 ∧ ρ g = 0 ∧ ρ db = 0
  mg : Mg W gb kd p
  dr : IsDr W db g dl xs 0
  gb : w.heap.size ≤ gb ∧ gb < g ∧ db = g + 1
  k : Keeps (fun _ => False) w W
section
variable {w w' : World}
theorem hU6 (w : World) (v0 v1 v2 v3 v4 v5 : Value) (t : TypeId) (ob : Obj) : CL ((w.alloc (.cells #[v0, v1, v2, v3, v4, v5] t)).alloc ob) w.heap.size [v0, v1, v2, v3, v4, v5] := (CL.made w [v0, v1, v2, v3, v4, v5] t).alloc (by show 0 < 6; decide) ob
theorem hR4 (w : World) (ob : Obj) (v0 v1 v2 v3 : Value) (t : TypeId) : CL ((w.alloc ob).alloc (.cells #[v0, v1, v2, v3] t)) (w.heap.size + 1) [v0, v1, v2, v3] := by
  refine cast ?_ (CL.made (w.alloc ob) [v0, v1, v2, v3] t)
  congr 1
  simp
theorem make0 {w : World} {mb : Nat} {F : List Nat} (h : MI w mb Mm.new F) (x : Int) : Calls Tryz.prog 50 #[.pointer (some ⟨mb, 0, none⟩), .int .i64 x] w fun e w' => e = .returned (.tuple #[.int .i64 0, .int .i64 0]) ∧ ∃ F', MI w' mb (Mm.new.make x) F' ∧ Left w w' F F' := by
  have hl : Mm.new.cells.length = 0 := by simp [Mm.new]
  have h1 := make_any h x (by rw [hl]; omega)
  have e : ((Mm.new.cells.length : Nat) : Int) = 0 := by simp [Mm.new]
  rw [e] at h1
  exact h1
theorem make1 {w : World} {mb : Nat} {F : List Nat} {f : Int} (h : MI w mb (Mm.new.make f) F) (x : Int) : Calls Tryz.prog 50 #[.pointer (some ⟨mb, 0, none⟩), .int .i64 x] w fun e w' => e = .returned (.tuple #[.int .i64 1, .int .i64 0]) ∧ ∃ F', MI w' mb (om f x) F' ∧ Left w w' F F' := by
  have hl : (Mm.new.make f).cells.length = 1 := by simp [Mm.new, Mm.make]
  have h1 := make_any h x (by rw [hl]; omega)
  have e : (((Mm.new.make f).cells.length : Nat) : Int) = 1 := by simp [Mm.new, Mm.make]
  rw [e] at h1
  exact h1
set_option maxHeartbeats 1600000 in
set_option maxRecDepth 1000000 in
theorem scene_any {kd n dl vc dc : Nat} {p f s : Int} {da va : Option Addr} {z xs : Nat → Int} (hk : kd < 5) (hp : Pat p) (h0 : 0 < n) (h8 : n ≤ 8) (hv : IsRaw w va n z) (hd : IsRaw w da dl xs) (hdl : dl ≤ 17592186044416) :
    Calls Tryz.prog 30 #[.agg #[.int .i64 (kd : Int), .int .i64 p, .slice da dl dc, .slice va n vc, .int .i64 f, .int .i64 s]] w fun e w' => ∃ mb wb gb db g, e = .returned (.tuple #[.agg #[.pointer (some ⟨mb, 0, none⟩), .pointer (some ⟨wb, 0, none⟩), .pointer (some ⟨gb, 0, none⟩), .pointer (some ⟨db, 0, none⟩)], .bool true]) ∧ SC w mb wb gb db g kd p n z f s dl xs w' := by
  obtain ⟨w0, hw0⟩ : ∃ w0, w0 = (w.alloc (.cells #[.int .i64 (kd : Int), .int .i64 p, .slice da dl dc, .slice va n vc, .int .i64 f, .int .i64 s] 24)).alloc (.cells #[.pointer none, .pointer none, .pointer none, .pointer none] 46) := ⟨_, rfl⟩
  have k0 : Keeps (fun _ => False) w w0 := by rw [hw0]; exact ((Keeps.refl _ w).alloc _).alloc _
  have hU : CL w0 w.heap.size [.int .i64 (kd : Int), .int .i64 p, .slice da dl dc, .slice va n vc, .int .i64 f, .int .i64 s] := by rw [hw0]; exact hU6 w _ _ _ _ _ _ _ _
  have hR : CL w0 (w.heap.size + 1) [.pointer none, .pointer none, .pointer none, .pointer none] := by rw [hw0]; exact hR4 w _ _ _ _ _ _
  have lR : w.heap.size + 1 < w0.heap.size := hR.lt (by show 0 < 4; decide)
  have q1 : ∀ (a : Addr) (w : World), (binOp .eql 41 (.pointer (some a)) (.pointer none)).run Tryz.prog w = .ok (.bool false) w := fun _ _ => rfl
  have q2 : ∀ (a : Addr) (w : World), (binOp .eql 42 (.pointer (some a)) (.pointer none)).run Tryz.prog w = .ok (.bool false) w := fun _ _ => rfl
  have q3 : ∀ (a : Addr) (w : World), (binOp .eql 43 (.pointer (some a)) (.pointer none)).run Tryz.prog w = .ok (.bool false) w := fun _ _ => rfl
  have q4 : ∀ (a : Addr) (w : World), (binOp .eql 44 (.pointer (some a)) (.pointer none)).run Tryz.prog w = .ok (.bool false) w := fun _ _ => rfl
  go_enter Tryz.func30, Tryz.ntmps30
  go_wp2_with fail
  rw [← hw0]
  refine (new_any w0).mono ?_
  rintro e W1 ⟨rfl, m1, k1⟩
  have hv0 := hv.keep k0
  have hd0 := hd.keep k0
  have hd0' : IsRaw w0 da dl xs := hd0
  clear hw0 hv hd
  have hU1 := hU.keep (by show 0 < 6; decide) k1 (fun e => e)
  have hR1 := hR.keep (by show 0 < 4; decide) k1 (fun e => e)
  have u4 := hU1.c 4 _ rfl
  go_wp2_with fail
  refine (make0 m1 f).mono ?_
  rintro e W2 ⟨rfl, F2, m2, l2⟩
  have nF1 : ∀ k, k < w0.heap.size → ¬ k ∈ [w0.heap.size] := fun k hk e => by simp at e; omega
  have s1 := k1.size
  have hU2 := hU1.keep (by show 0 < 6; decide) l2.keeps (nF1 _ (by omega))
  have hR2 := hR1.keep (by show 0 < 4; decide) l2.keeps (nF1 _ (by omega))
  clear u4
  have u5 := hU2.c 5 _ rfl
  go_wp2_with fail
  refine (make1 m2 s).mono ?_
  rintro e W3 ⟨rfl, F3, m3, l3⟩
  have s2 := l2.keeps.size
  have nF2 : ∀ k, k < w0.heap.size → ¬ k ∈ F2 := fun k hk e => (l2.old k e).elim (nF1 k hk) (fun e' => by omega)
  have hU3 := hU2.keep (by show 0 < 6; decide) l3.keeps (nF2 _ (by omega))
  have hR3 := hR2.keep (by show 0 < 4; decide) l3.keeps (nF2 _ (by omega))
  have nF3 : ∀ k, k < w0.heap.size → ¬ k ∈ F3 := fun k hk e => (l3.old k e).elim (nF2 k hk) (fun e' => by omega)
  have s3 := l3.keeps.size
  have k3 : Keeps (fun _ => False) w0 W3 := (k1.trans' l2.keeps (fun _ _ e => e) (fun i hi e => nF1 i hi e)).trans' l3.keeps (fun _ _ e => e) (fun i hi e => nF2 i hi e)
  have hv3 := hv0.keep k3
  have hd3 := hd0.keep k3
  clear u5 hv0 hd0
  have u3 := hU3.c 3 _ rfl
  go_wp2_with (first | (go_at_call 12; refine (num_r _ _).mono ?_; rintro e Wq ⟨rfl, rfl⟩))
  have hV4 := values_any (cap := vc) hv3 h0 (by omega)
  clear hv3
  refine hV4.mono ?_
  clear hV4
  rintro e W4 ⟨vb, vcap, rfl, hvb, hvl, k4⟩
  have l4 := k4.size
  have m4 := m3.new k4
  have hU4 := hU3.keep (by show 0 < 6; decide) k4 (fun e => e)
  have hR4 := hR3.keep (by show 0 < 4; decide) k4 (fun e => e)
  have hd4 := hd3.keep k4
  have nV : ¬ vb ∈ F3 := fun e => by have := m3.lt vb e; omega
  have hN := New_ok (w := W4) (ρ := fun k => if k ∈ F3 then 1 else 0) (u := 1) (j := 2) (m := om f s) ⟨F3, m4, fun k hk => if_pos hk⟩ (by decide) (by decide) (by decide) (a := some ⟨vb, 0, none⟩) (vs := ovs z n) (.inr ⟨vb, 0, rfl, if_neg nV, fun i v hi => by
    have hi' : i < n := by have := (List.getElem?_eq_some_iff.1 hi).1; rwa [ovs_len] at this
    have ev : v = ⟨z i, 0, false⟩ := by simp [ovs, hi'] at hi; exact hi.symm
    subst ev
    have q := hvl i hi'
    rw [Nat.zero_add]
    exact q⟩) vcap (by rw [ovs_len]; omega) (by rw [ovs_len]; omega) (by rw [ovs_len, om_len]; omega)
  rw [ovs_len, om_len] at hN
  clear hvl hvb u3
  go_wp2_with fail
  refine hN.mono ?_
  clear hN
  rintro e W5 ⟨rfl, ρ5, st5, x5⟩
  have n0 : ∀ k, k < w0.heap.size → ¬ Sr 1 2 (if k ∈ F3 then 1 else 0) := fun k hk e => by rw [if_neg (nF3 k hk)] at e; unfold Sr at e; omega
  have hU5 := hU4.keep (by show 0 < 6; decide) x5.keeps (n0 _ (by omega))
  have hR5 := hR4.keep (by show 0 < 4; decide) x5.keeps (n0 _ (by omega))
  have k5 : Keeps (fun _ => False) w0 W5 := (k3.trans k4).trans' x5.keeps (fun _ _ e => e) (fun i hi e => n0 i hi e)
  have hd5 : IsRaw W5 da dl xs := hd0'.keep k5
  have l5 := x5.keeps.size
  clear hd4 hd3
  have u0 := hU5.c 0 _ rfl
  have u1 := hU5.c 1 _ rfl
  go_wp2_with fail
  refine (mgr_new W5 hk hp).mono ?_
  rintro e W6 ⟨gb, rfl, hgb, hMg, k6⟩
  have l6 := k6.size
  have hU6 := hU5.keep (by show 0 < 6; decide) k6 (fun e => e)
  have hR6 := hR5.keep (by show 0 < 4; decide) k6 (fun e => e)
  have hN6 := numbers_any (cap := dc) (hd5.keep k6) (by omega)
  clear u0 u1 hd5
  have u2 := hU6.c 2 _ rfl
  go_wp2_with fail
  refine hN6.mono ?_
  clear hN6
  rintro e W7 ⟨a7, c7, rfl, hd7, k7⟩
  have l7 := k7.size
  have hR7 := hR6.keep (by show 0 < 4; decide) k7 (fun e => e)
  have hD7 := newDraws_any (cap := c7) hd7 hdl
  clear u2 hd7
  go_wp2_with fail
  refine hD7.mono ?_
  clear hD7
  rintro e W8 ⟨rfl, sz8, dr8, b8⟩
  have k8 := keeps_of_below b8
  have hR8 := hR7.keep (by show 0 < 4; decide) k8 (fun e => e)
  have Z8 : Hid (W8.heap.size = W7.heap.size + 2) := sz8
  clear sz8 b8
  have y0 := hR8.c 0 _ rfl
  have y1 := hR8.c 1 _ rfl
  have y2 := hR8.c 2 _ rfl
  have y3 := hR8.c 3 _ rfl
  have yz0 := hR8.z 0 (by show 0 < 4; decide)
  have yz1 := hR8.z 1 (by show 1 < 4; decide)
  have yz2 := hR8.z 2 (by show 2 < 4; decide)
  have yz3 := hR8.z 3 (by show 3 < 4; decide)
  go_wp2_with (go_at_call 12; refine (num_r _ _).mono ?_; rintro e Wq ⟨rfl, rfl⟩)
  refine bodyPost_ret (v := .tuple #[.agg #[.pointer (some ⟨w0.heap.size, 0, none⟩), .pointer (some ⟨W4.heap.size, 0, none⟩), .pointer (some ⟨gb, 0, none⟩), .pointer (some ⟨W7.heap.size + 1, 0, none⟩)], .bool true]) (by rw [results_cell_tmp rfl]; go_simp) rfl ⟨w0.heap.size, W4.heap.size, gb, W7.heap.size + 1, W7.heap.size, rfl, ?_⟩
  have k9 := ((((Keeps.refl (fun k => k = w.heap.size + 1) Wq).setA 0 (.pointer (some ⟨w0.heap.size, 0, none⟩))).setA 1 (.pointer (some ⟨W4.heap.size, 0, none⟩))).setA 2 (.pointer (some ⟨gb, 0, none⟩))).setA 3 (.pointer (some ⟨W7.heap.size + 1, 0, none⟩))
  generalize (((Wq.setCell ⟨w.heap.size + 1, 0, none⟩ (.pointer (some ⟨w0.heap.size, 0, none⟩))).setCell ⟨w.heap.size + 1, 1, none⟩ (.pointer (some ⟨W4.heap.size, 0, none⟩))).setCell ⟨w.heap.size + 1, 2, none⟩ (.pointer (some ⟨gb, 0, none⟩))).setCell ⟨w.heap.size + 1, 3, none⟩ (.pointer (some ⟨W7.heap.size + 1, 0, none⟩)) = w9 at *
  have K6 : Keeps (fun k => k = w.heap.size + 1) W6 w9 := ((k7.trans k8).mono (fun _ _ e => e.elim)).trans k9
  have K5 : Keeps (fun k => k = w.heap.size + 1) W5 w9 := (k6.mono (fun _ _ e => e.elim)).trans K6
  have lg : gb < W6.heap.size := World.block_lt_of_cell? _ _ hMg.2.2
  have o5 : ∀ k, k < w0.heap.size → ρ5 k = 0 := fun k hk => (x5.old k (by omega)).trans (if_neg (nF3 k hk))
  have l0 := k0.size
  refine ⟨⟨ρ5, st_wr0 st5 K5 (fun i _ e => by rw [e]; exact o5 _ lR), fun k hk => o5 k (by omega), st5.bnd gb hgb, st5.bnd _ (by omega), st5.bnd _ (by omega)⟩, mg_keep hMg K6 (by omega), dr8.keep k9 (by omega) (by omega), ⟨by omega, by omega, rfl⟩, ?_⟩
  exact (k0.trans k5).trans' K5 (fun _ _ e => e) (fun i hi e => by omega)
end
end Go.Proofs.YtgjndhbfjofkeaaGreatDoor

