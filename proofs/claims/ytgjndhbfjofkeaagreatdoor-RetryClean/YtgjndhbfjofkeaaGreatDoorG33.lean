import Derived.Test.YtgjndhbfjofkeaaGreatDoorG32
import Derived.Test.YtgjndhbfjofkeaaGreatDoorG31
import Derived.Deep.Slices
import Derived.ChangeArms
import Derived.ChangeSlices
import Derived.DataReads
import Derived.OpenShut
import Derived.SizedLaws
namespace Go.Proofs.YtgjndhbfjofkeaaGreatDoor
open Go.RowKit
inductive MO (kd t i : Nat) (st : Int) (p p' : Pt) (s : Ws) (m : Mm) (r : Ro) (b : Bool) (s' : Ws) (m' : Mm) : Prop
  | over (h : p.T.oc ≠ 0) (hb : b = false) (hr : r = Ro.zero) (hp : p' = p) (hs : s' = s) (hm : m' = m)
  | ask (h : p.T.oc = 0) (ab : Nat) (ha : p.T.a = some ab) (hal : p.x.alive = true) (hb : b = false) (hr : r = Ro.zero) (hm : m' = m) (sa : AS p p' s s')
  | step (h : p.T.oc = 0) (hb : b = true) (si : SI kd t i p p' s (m.begin st (i : Int)) r s' m')
section
variable {w w' w'' : World} {ρ ρ' ρ'' lb lb' lb'' : Nat → Nat} {u j ab fb : Nat} {n st : Int} {B : Bk} {nd kr kr' kd t i o : Nat} {xs : Nat → Int} {p : Int} {P : Nat → Pt} {s s' : Ws} {m m' : Mm}
theorem FB.as {p0 p' : Pt} (h : FB t s m st) (a : AS p0 p' s s') : FB t s' m st := ⟨by rw [a.ln.2.1]; exact h.at_, h.ce, h.lg, by rw [a.ln.1]; exact h.lo, h.sp, h.s0⟩
theorem FB.later (h : FB t s m st) : FB (t + 1) s m st := ⟨by have := h.at_; omega, by have := h.ce; omega, by have := h.lg; omega, by have := h.lo; omega, h.sp, by have := h.s0; omega⟩
theorem FQ.later (h : FQ kd t P s m) : FQ kd (t + 1) P s m :=
  ⟨h.pv, h.c0, h.f0, fun i hi => by
    have q := h.pt i hi
    refine ⟨q.th, q.jb, by have := q.tr; omega, q.no, fun ab ha => ?_⟩
    have a := q.so ab ha
    exact ⟨a.gx.later (Nat.le_succ t), a.th, a.st, a.pr, a.tr, by have := a.ln; omega, a.oc, a.rk, a.kp⟩, h.dj⟩
theorem f_move (h : FM w ρ lb u j B nd xs kr kd p P s m) (hd : FD w ρ lb B fb n st) (hQ : FQ kd t P s m) (hB : FB t s m st) (hn : 0 < n ∧ n ≤ 8) (hno : n = (s.objs.length : Int)) (ht : t ≤ 5000) (hi : i < 4) (mp ma mx : Int) (hmp : mp % 4 = (i : Int)) :
    Calls Tryz.prog 9 #[.pointer (some ⟨fb, 0, none⟩), .agg #[.int .i64 mp, .int .i64 ma, .int .i64 mx]] w fun e w' => ∃ r b p' s' m' kr' ρ' lb' st', e = .returned (.tuple #[.agg r.cells.toArray, .bool b, .bool true]) ∧ FM w' ρ' lb' u j B nd xs kr' kd p (fun k => if k = i then p' else P k) s' m' ∧ FQ kd (t + 1) (fun k => if k = i then p' else P k) s' m' ∧ FX u j fb w w' ρ ρ' lb lb' ∧ FD w' ρ' lb' B fb n st' ∧ FB (t + 1) s' m' st' ∧ MO kd t i st (P i) p' s m r b s' m' := by
  have eP : (fun k => if k = i then P i else P k) = P := by funext k; by_cases e : k = i <;> simp [e]
  by_cases hoc : (P i).T.oc = 0
  · have stp : (P i).T.state (P i).x = 0 ∨ (P i).T.state (P i).x = 2 → Calls Tryz.prog 9 #[.pointer (some ⟨fb, 0, none⟩), .agg #[.int .i64 mp, .int .i64 ma, .int .i64 mx]] w fun e w' => ∃ r b p' s' m' kr' ρ' lb' st', e = .returned (.tuple #[.agg r.cells.toArray, .bool b, .bool true]) ∧ FM w' ρ' lb' u j B nd xs kr' kd p (fun k => if k = i then p' else P k) s' m' ∧ FQ kd (t + 1) (fun k => if k = i then p' else P k) s' m' ∧ FX u j fb w w' ρ ρ' lb lb' ∧ FD w' ρ' lb' B fb n st' ∧ FB (t + 1) s' m' st' ∧ MO kd t i st (P i) p' s m r b s' m' := fun hk => by
      refine (move_step h hd hQ hB ht hi rfl hk mp ma mx hmp).mono ?_
      rintro e w' ⟨r, rfl, p', s', m', kr', ρ', lb', F, Q, X, d, b, si⟩
      exact ⟨r, true, p', s', m', kr', ρ', lb', _, rfl, F, Q, X, d, b, .step hoc rfl si⟩
    cases ha : (P i).T.a with
    | none => exact stp (.inl (by unfold Tr.state; rw [if_pos hoc, ha]))
    | some ab =>
      cases hal : (P i).x.alive with
      | false => exact stp (.inl (by unfold Tr.state Tx.state; rw [if_pos hoc, ha, hal]; rfl))
      | true =>
        cases hk : (P i).x.nx with
        | some k => exact stp (.inr (by unfold Tr.state Tx.state; rw [if_pos hoc, ha, hal, hk]; rfl))
        | none =>
          have x1 := Int.emod_nonneg mx (show n ≠ 0 by omega)
          have x2 := Int.emod_lt_of_pos mx hn.1
          refine (move_ask (o := (mx % n).toNat) h hd hQ hn (by omega) ht hi ha hal hoc hk mp ma mx hmp (by omega)).mono ?_
          rintro e w' ⟨rfl, p', s', ρ', lb', F, Q, X, d, a⟩
          exact ⟨Ro.zero, false, p', s', m, kr, ρ', lb', st, rfl, F, Q.later, X, d, (hB.as a).later, .ask hoc ab ha hal rfl rfl rfl a⟩
  · refine (move_over h hd hQ hi hoc mp ma mx hmp).mono ?_
    rintro e w' ⟨rfl, F, X, d⟩
    refine ⟨Ro.zero, false, P i, s, m, kr, ρ, lb, st, rfl, ?_, ?_, X, d, hB.later, .over hoc rfl rfl rfl rfl rfl⟩
    · rw [eP]; exact F
    · rw [eP]; exact hQ.later
end
end Go.Proofs.YtgjndhbfjofkeaaGreatDoor

namespace Go.Proofs.YtgjndhbfjofkeaaGreatDoor
open Go.RowKit
attribute [local go_sem] Oper.semAt_some run_store_nf run_store_f
section
variable {w w' : World} {mb wb gb db : Nat} {ρ : Nat → Nat} {u j : Nat} {s : Ws} {m : Mm}
set_option maxHeartbeats 1600000 in
set_option maxRecDepth 1000000 in
theorem t_new (hpk : ∀ W, Keeps (fun _ => False) w W → Calls Tryz.prog 17 #[.pointer (some ⟨mb, 0, none⟩), .int .i64 0] W fun e w' => (∃ v : Int, e = .returned (.tuple #[.int .i64 v, .int .i64 0])) ∧ w' = W) (th jb : Int) :
    Calls Tryz.prog 31 #[.agg #[.pointer (some ⟨mb, 0, none⟩), .pointer (some ⟨wb, 0, none⟩), .pointer (some ⟨gb, 0, none⟩), .pointer (some ⟨db, 0, none⟩)], .int .i64 0, .int .i64 th, .int .i64 jb] w fun e w' => ∃ tb, e = .returned (.tuple #[.pointer (some ⟨tb, 0, none⟩), .int .i64 0]) ∧ w.heap.size ≤ tb ∧ CL w' tb (Tr.cells ⟨th, jb, -1, -1, 0, 0, none⟩ mb wb gb db) ∧ Keeps (fun _ => False) w w' := by
  have K0 : Keeps (fun _ => False) w (w.alloc (.cells #[.pointer (some ⟨mb, 0, none⟩), .pointer (some ⟨wb, 0, none⟩), .pointer (some ⟨gb, 0, none⟩), .pointer (some ⟨db, 0, none⟩)] 46)) := (Keeps.refl _ w).alloc _
  have hp := hpk _ K0
  have e1 : ∀ w : World, (binOp .eql 41 (.pointer (some ⟨mb, 0, none⟩)) (.pointer none)).run Tryz.prog w = .ok (.bool false) w := fun _ => rfl
  have e2 : ∀ w : World, (binOp .eql 42 (.pointer (some ⟨wb, 0, none⟩)) (.pointer none)).run Tryz.prog w = .ok (.bool false) w := fun _ => rfl
  have e3 : ∀ w : World, (binOp .eql 43 (.pointer (some ⟨gb, 0, none⟩)) (.pointer none)).run Tryz.prog w = .ok (.bool false) w := fun _ => rfl
  have e4 : ∀ w : World, (binOp .eql 44 (.pointer (some ⟨db, 0, none⟩)) (.pointer none)).run Tryz.prog w = .ok (.bool false) w := fun _ => rfl
  go_enter Tryz.func31, Tryz.ntmps31
  go_wp2_with fail
  refine hp.mono ?_
  rintro e wq ⟨⟨v, rfl⟩, rfl⟩
  go_wp2_with fail
  refine bodyPost_ret (v := .tuple #[.pointer (some ⟨w.heap.size + 1 + 1, 0, none⟩), .int .i64 0]) (by simp [results, Tryz.f31, go_sem]) rfl ⟨w.heap.size + 1 + 1, rfl, by omega, ?_, (K0.alloc _).alloc _⟩
  refine cast ?_ (CL.made ((w.alloc (.cells #[.pointer (some ⟨mb, 0, none⟩), .pointer (some ⟨wb, 0, none⟩), .pointer (some ⟨gb, 0, none⟩), .pointer (some ⟨db, 0, none⟩)] 46)).alloc (.cells #[.int .i64 th, .int .i64 (-1), .int .i64 (-1)] 51)) (Tr.cells ⟨th, jb, -1, -1, 0, 0, none⟩ mb wb gb db) 89)
  congr 1
  simp
end
end Go.Proofs.YtgjndhbfjofkeaaGreatDoor

namespace Go.Proofs.YtgjndhbfjofkeaaGreatDoor
open Go.RowKit Go.Maps Go.ChangeMaps Go.MapKept Go.WideShapes
attribute [local go_sem] Oper.semAt_some run_store_nf run_store_f
def fck (mb wb gb db : Nat) (n : Int) (k : Nat) (tb : Nat → Nat) : List Value :=
  [.pointer (some ⟨mb, 0, none⟩), .pointer (some ⟨wb, 0, none⟩), .pointer (some ⟨gb, 0, none⟩), .pointer (some ⟨db, 0, none⟩), .int .i64 n, .pointer (if 0 < k then some ⟨tb 0, 0, none⟩ else none), .pointer (if 1 < k then some ⟨tb 1, 0, none⟩ else none), .pointer (if 2 < k then some ⟨tb 2, 0, none⟩ else none), .pointer (if 3 < k then some ⟨tb 3, 0, none⟩ else none), .int .i64 0]
structure OK (W : World) (fb mb wb gb db : Nat) (n : Int) (k : Nat) (tb : Nat → Nat) (Wr : World) : Prop where
  cl : CL Wr fb (fck mb wb gb db n k tb)
  kk : Keeps (fun q => q = fb) W Wr
  tc : ∀ i, i < k → CL Wr (tb i) ((pt0 i).T.cells mb wb gb db) ∧ W.heap.size ≤ tb i
  lt : ∀ i j, i < j → j < k → tb i < tb j
  le : ∀ i, i < k → tb i < Wr.heap.size
def OpO (w : World) (f : Int) (nd : Nat) (e : Ending) (w' : World) : Prop :=
  ∃ (fb : Nat) (ρ lb : Nat → Nat) (B : Bk) (xs : Nat → Int) (kd : Nat) (p : Int) (s : Ws) (m : Mm) (n : Nat), e = .returned (.tuple #[.pointer (some ⟨fb, 0, none⟩), .bool true]) ∧ FM w' ρ lb 1 2 B nd xs 0 kd p pt0 s m ∧ FD w' ρ lb B fb (n : Int) 0 ∧ FQ kd 0 pt0 s m ∧ FB 0 s m 0 ∧ (0 < n ∧ n ≤ 8) ∧ n = s.objs.length ∧ m.val 0 = f ∧ s.atts.length = 1 ∧ (∀ k, k < w.heap.size → ρ k = 0 ∧ lb k ≤ 1) ∧ w.heap.size ≤ fb ∧ Keeps (fun _ => False) w w'
theorem IsRaw.keepS {w w' : World} {a : Option Addr} {n : Nat} {z : Nat → Int} (h : IsRaw w a n z) {S : Nat → Prop} (k : Keeps S w w') (hS : ∀ b off, a = some ⟨b, off, none⟩ → ¬ S b) : IsRaw w' a n z := by
  rcases h with h | ⟨b, off, e, hlt, hc⟩
  · exact .inl h
  · exact .inr ⟨b, off, e, Nat.lt_of_lt_of_le hlt k.size, fun i hi => k.cell (hc i hi) (hS b off e)⟩
section
variable {w w' : World}
theorem OK.next {W Wr Wn : World} {fb mb wb gb db : Nat} {n : Int} {k : Nat} {tb : Nat → Nat} (h : OK W fb mb wb gb db n k tb Wr) (hk : k < 4) {t : Nat} (ht : Wr.heap.size ≤ t) (hc : CL Wn t ((pt0 k).T.cells mb wb gb db)) (kn : Keeps (fun _ => False) Wr Wn) (hf : fb < W.heap.size) :
    OK W fb mb wb gb db n (k + 1) (fun i => if i = k then t else tb i) (Wn.setCell ⟨fb, 5 + k, none⟩ (.pointer (some ⟨t, 0, none⟩))) := by
  have l1 := h.kk.size
  have l2 := kn.size
  have tl := hc.lt (by show 0 < 13; decide)
  have kS : Keeps (fun q => q = fb) Wn (Wn.setCell ⟨fb, 5 + k, none⟩ (.pointer (some ⟨t, 0, none⟩))) := (Keeps.refl (fun q => q = fb) Wn).setCell (p := ⟨fb, 5 + k, none⟩) (fun _ => rfl) _
  have szS : (Wn.setCell ⟨fb, 5 + k, none⟩ (.pointer (some ⟨t, 0, none⟩))).heap.size = Wn.heap.size := by simp
  refine ⟨?_, (h.kk.trans (kn.mono (fun _ _ e => e.elim))).trans kS, fun i hi => ?_, fun i j hij hj => ?_, fun i hi => ?_⟩
  · have c1 := (h.cl.keep (by show 0 < 10; decide) kn (fun e => e)).set (o := 5 + k) (by show 5 + k < 10; omega) (.pointer (some ⟨t, 0, none⟩))
    rcases (by omega : k = 0 ∨ k = 1 ∨ k = 2 ∨ k = 3) with rfl | rfl | rfl | rfl <;> exact c1
  · by_cases e : i = k
    · subst e
      simp only [if_true]
      exact ⟨hc.keep (by show 0 < 13; decide) kS (fun e => by omega), by omega⟩
    · simp only [if_neg e]
      have t := h.tc i (by omega)
      exact ⟨(t.1.keep (by show 0 < 13; decide) kn (fun e => e)).keep (by show 0 < 13; decide) kS (fun e => by omega), t.2⟩
  · by_cases e : j = k
    · have := h.le i (by omega)
      simp only [if_pos e, if_neg (show ¬ i = k by omega)]; omega
    · simp only [if_neg e, if_neg (show ¬ i = k by omega)]; exact h.lt i j hij (by omega)
  · rw [szS]
    by_cases e : i = k
    · simp only [if_pos e]; exact tl
    · simp only [if_neg e]; have := h.le i (by omega); omega
def olb (gb g db : Nat) (tb : Nat → Nat) (k : Nat) : Nat := if k = 0 ∨ k = gb ∨ k = g then 1 else if k = db then 2 else if k = tb 0 then 10 else if k = tb 1 then 11 else if k = tb 2 then 12 else if k = tb 3 then 13 else 0
theorem OK.fm {W0 W W5 Wr : World} {fb mb wb gb db g : Nat} {n kd : Nat} {tb : Nat → Nat} {p f s : Int} {z xs : Nat → Int} {dl : Nat} (hS : SC W0 mb wb gb db g kd p n z f s dl xs W) (hT : TR W0) (hx : ∀ i, In64 (xs i)) (k5 : Keeps (fun _ => False) W W5) (hf : W.heap.size ≤ fb ∧ fb < W5.heap.size) (h : OK W5 fb mb wb gb db (n : Int) 4 tb Wr) :
    ∃ ρ, FM Wr ρ (olb gb g db tb) 1 2 ⟨mb, wb, gb, db, g, tb⟩ dl xs 0 kd p pt0 (nw (ovs z n) 2 n) (nm (om f s) n) ∧ FD Wr ρ (olb gb g db tb) ⟨mb, wb, gb, db, g, tb⟩ fb (n : Int) 0 ∧ ∀ k, k < W0.heap.size → ρ k = 0 ∧ olb gb g db tb k ≤ 1 := by
  obtain ⟨ρ, st, h0, hg, hgg, hd⟩ := hS.st
  obtain ⟨o1, o2, o3⟩ := hS.gb
  have lT : 0 < W0.heap.size := World.block_lt_of_cell? _ _ (hT 0 (by decide)).1
  have l0 := hS.k.size
  have l5 := k5.size
  have lr := h.kk.size
  have ldb : db < W.heap.size := World.block_lt_of_cell? _ _ hS.dr.taken
  have K : Keeps (fun q => q = fb) W Wr := (k5.mono (fun _ _ e => e.elim)).trans h.kk
  have t0 := (h.tc 0 (by decide)).2
  have t1 := h.lt 0 1 (by decide) (by decide)
  have t2 := h.lt 1 2 (by decide) (by decide)
  have t3 := h.lt 2 3 (by decide) (by decide)
  have tl := h.le 3 (by decide)
  have bnd : ∀ k, W.heap.size ≤ k → ρ k = 0 := st.bnd
  have e0 : olb gb g db tb 0 = 1 := by unfold olb; rw [if_pos (.inl rfl)]
  have eg : olb gb g db tb gb = 1 := by unfold olb; rw [if_pos (.inr (.inl rfl))]
  have egg : olb gb g db tb g = 1 := by unfold olb; rw [if_pos (.inr (.inr rfl))]
  have ed : olb gb g db tb db = 2 := by unfold olb; rw [if_neg (by omega), if_pos rfl]
  have eb : ∀ k, W.heap.size ≤ k → k ≠ tb 0 → k ≠ tb 1 → k ≠ tb 2 → k ≠ tb 3 → olb gb g db tb k = 0 := fun k hk a b c d => by unfold olb; rw [if_neg (by omega), if_neg (by omega), if_neg a, if_neg b, if_neg c, if_neg d]
  have et : ∀ i, i < 4 → olb gb g db tb (tb i) = 10 + i := fun i hi => by
    unfold olb
    rcases (by omega : i = 0 ∨ i = 1 ∨ i = 2 ∨ i = 3) with rfl | rfl | rfl | rfl
    · rw [if_neg (by omega), if_neg (by omega), if_pos rfl]
    · rw [if_neg (by omega), if_neg (by omega), if_neg (by omega), if_pos rfl]
    · rw [if_neg (by omega), if_neg (by omega), if_neg (by omega), if_neg (by omega), if_pos rfl]
    · rw [if_neg (by omega), if_neg (by omega), if_neg (by omega), if_neg (by omega), if_neg (by omega), if_pos rfl]
  have nT : ∀ i, i < 4 → W5.heap.size ≤ tb i := fun i hi => (h.tc i hi).2
  refine ⟨ρ, ⟨st_wr0 st K (fun i hi e => by rw [e]; exact bnd fb hf.1), mg_keep hS.mg K (show ¬ gb = fb by omega), tr_keep (hT.keep hS.k) K (show ¬ 0 = fb by omega), hS.dr.keep K (show ¬ db = fb by omega) (show ¬ g = fb by omega), hx, ⟨h0 0 lT, e0⟩, ⟨hg, eg⟩, ⟨hgg, egg, by show g < _; omega⟩, ⟨hd, ed⟩, fun i hi => ⟨(h.tc i hi).1, bnd _ (by have := nT i hi; show W.heap.size ≤ tb i; omega), et i hi⟩, fun i ab _ ha => (by cases ha), fun k hk => eb k (by omega) (by omega) (by omega) (by omega) (by omega)⟩, ⟨h.cl, bnd fb hf.1, eb fb hf.1 (by omega) (by omega) (by omega) (by omega)⟩, fun k hk => ⟨h0 k hk, ?_⟩⟩
  unfold olb
  by_cases e : k = 0 ∨ k = gb ∨ k = g
  · rw [if_pos e]; exact Nat.le_refl _
  · rw [if_neg e, if_neg (by omega), if_neg (by omega), if_neg (by omega), if_neg (by omega), if_neg (by omega)]; omega
set_option maxHeartbeats 4000000 in
set_option maxRecDepth 1000000 in
theorem open_any {k pa f s : Int} {da va : Option Addr} {dl dc vl vc : Nat} {z xs : Nat → Int} (hT : TR w) (hv : IsRaw w va vl z) (hvc : vl ≤ vc) (hb : vl ≤ 9223372036854775807) (hd : IsRaw w da dl xs) (hdl : dl ≤ 17592186044416) (hx : ∀ i, In64 (xs i)) (hf : In64 f) (hs : In64 s) :
    Calls Tryz.prog 8 #[.agg #[.int .i64 k, .int .i64 pa, .slice da dl dc, .slice va vl vc, .int .i64 f, .int .i64 s]] w (OpO w f dl) := by
  obtain ⟨w0, hw0⟩ : ∃ w0, w0 = w.alloc (.cells #[.int .i64 k, .int .i64 pa, .slice da dl dc, .slice va vl vc, .int .i64 f, .int .i64 s] 24) := ⟨_, rfl⟩
  have k0 : Keeps (fun _ => False) w w0 := by rw [hw0]; exact (Keeps.refl _ w).alloc _
  have hU : CL w0 w.heap.size [.int .i64 k, .int .i64 pa, .slice da dl dc, .slice va vl vc, .int .i64 f, .int .i64 s] := by rw [hw0]; exact CL.made w [.int .i64 k, .int .i64 pa, .slice da dl dc, .slice va vl vc, .int .i64 f, .int .i64 s] _
  have i6 : (Tryz.prog.info? 24).map (·.size) = some 6 := by kernel_rfl
  have lH : w.heap.size < w0.heap.size := hU.lt (by show 0 < 6; decide)
  go_enter Tryz.func8, Tryz.ntmps8
  have u0 := hU.c 0 _ rfl
  have u1 := hU.c 1 _ rfl
  have u2 := hU.c 2 _ rfl
  have u3 := hU.c 3 _ rfl
  have u4 := hU.c 4 _ rfl
  have u5 := hU.c 5 _ rfl
  have nva : ∀ b off, 0 < vl → va = some ⟨b, off, none⟩ → b ≠ w.heap.size := fun b off h0 e e' => by
    obtain ⟨b', off', e1, hb', _⟩ := hv.resolve_left (by omega)
    rw [e] at e1
    cases e1
    omega
  have nda : ∀ b off, 0 < dl → da = some ⟨b, off, none⟩ → b ≠ w.heap.size := fun b off h0 e e' => by
    obtain ⟨b', off', e1, hb', _⟩ := hd.resolve_left (by omega)
    rw [e] at e1
    cases e1
    omega
  have hF0 := fixed_any (k := k) (pa := pa) (f := f) (s := s) (da := da) (dl := dl) (dc := dc) (hv.keep k0) hvc hb
  have hd0 := hd.keep k0
  clear hv hd
  go_wp2_with fail
  rw [← hw0]
  clear hw0 u0 u1 u2 u3 u4 u5
  refine hF0.mono ?_
  clear hF0
  rintro e W1 ⟨kd, p, va', vl', vc', z', rfl, hk, hp, h0, h8, hva, hv1, k1⟩
  have hU1 := hU.keep (by show 0 < 6; decide) k1 (fun e => e)
  have hd1 := hd0.keep k1
  have l1 := k1.size
  have y0 := hU1.c 0 _ rfl
  have y1 := hU1.c 1 _ rfl
  have y2 := hU1.c 2 _ rfl
  have y3 := hU1.c 3 _ rfl
  have y4 := hU1.c 4 _ rfl
  have y5 := hU1.c 5 _ rfl
  have yz0 := hU1.z 0 (by show 0 < 6; decide)
  have yz1 := hU1.z 1 (by show 1 < 6; decide)
  have yz2 := hU1.z 2 (by show 2 < 6; decide)
  have yz3 := hU1.z 3 (by show 3 < 6; decide)
  have yz4 := hU1.z 4 (by show 4 < 6; decide)
  have yz5 := hU1.z 5 (by show 5 < 6; decide)
  have hU2 := (((((hU1.set (o := 0) (by show 0 < 6; decide) (.int .i64 (kd : Int))).set (o := 1) (by show 1 < 6; decide) (.int .i64 p)).set (o := 2) (by show 2 < 6; decide) (.slice da dl dc)).set (o := 3) (by show 3 < 6; decide) (.slice va' vl' vc')).set (o := 4) (by show 4 < 6; decide) (.int .i64 f)).set (o := 5) (by show 5 < 6; decide) (.int .i64 s)
  have k2 := ((((((Keeps.refl (fun q => q = w.heap.size) W1).setA 0 (.int .i64 (kd : Int))).setA 1 (.int .i64 p)).setA 2 (.slice da dl dc)).setA 3 (.slice va' vl' vc')).setA 4 (.int .i64 f)).setA 5 (.int .i64 s)
  go_wp2_with fail
  clear y0 y1 y2 y3 y4 y5 yz0 yz1 yz2 yz3 yz4 yz5
  generalize (((((W1.setCell ⟨w.heap.size, 0, none⟩ (.int .i64 (kd : Int))).setCell ⟨w.heap.size, 1, none⟩ (.int .i64 p)).setCell ⟨w.heap.size, 2, none⟩ (.slice da dl dc)).setCell ⟨w.heap.size, 3, none⟩ (.slice va' vl' vc')).setCell ⟨w.heap.size, 4, none⟩ (.int .i64 f)).setCell ⟨w.heap.size, 5, none⟩ (.int .i64 s) = W2 at *
  have hv2 : IsRaw W2 va' vl' z' := hv1.keepS k2 (fun b off e => by
    rcases hva with e' | ⟨b', e', hb'⟩
    · exact nva b off e'.2 (e'.1 ▸ e)
    · rw [e'] at e; injection e with e; injection e with e1 e2; show ¬ b = w.heap.size; omega)
  have hd2 : IsRaw W2 da dl xs := by
    rcases Nat.eq_zero_or_pos dl with h | h
    · exact .inl h
    · exact hd1.keepS k2 (fun b off e => nda b off h e)
  have hT2 : TR W2 := tr_keep ((hT.keep k0).keep k1) k2 (fun e => by have lT := World.block_lt_of_cell? _ _ (hT 0 (by decide)).1; have e : 0 = w.heap.size := e; have lT : 0 < w.heap.size := lT; omega)
  refine (scene_any hk hp h0 h8 hv2 hd2 hdl).mono ?_
  rintro e W3 ⟨mb, wb, gb, db, g, rfl, hS⟩
  clear hv2 hd2 hv1 hd1 hd0 nva nda hva
  have l2 := k2.size
  have l3 := hS.k.size
  have hU3 := hU2.keep (by show 0 < 6; decide) hS.k (fun e => e)
  have c3 := (hU3.alloc (by show 0 < 6; decide) (.cells #[.pointer (some ⟨mb, 0, none⟩), .pointer (some ⟨wb, 0, none⟩), .pointer (some ⟨gb, 0, none⟩), .pointer (some ⟨db, 0, none⟩)] 46)).c 3 _ rfl
  have hS4 := CL.made W3 [.pointer (some ⟨mb, 0, none⟩), .pointer (some ⟨wb, 0, none⟩), .pointer (some ⟨gb, 0, none⟩), .pointer (some ⟨db, 0, none⟩)] 46
  have hS5 := hS4.alloc (by show 0 < 4; decide) (.cells (fck mb wb gb db (vl' : Int) 0 (fun _ => 0)).toArray 49)
  have hc5 := CL.made (W3.alloc (.cells #[.pointer (some ⟨mb, 0, none⟩), .pointer (some ⟨wb, 0, none⟩), .pointer (some ⟨gb, 0, none⟩), .pointer (some ⟨db, 0, none⟩)] 46)) (fck mb wb gb db (vl' : Int) 0 (fun _ => 0)) 49
  have k5 : Keeps (fun _ => False) W3 ((W3.alloc (.cells #[.pointer (some ⟨mb, 0, none⟩), .pointer (some ⟨wb, 0, none⟩), .pointer (some ⟨gb, 0, none⟩), .pointer (some ⟨db, 0, none⟩)] 46)).alloc (.cells (fck mb wb gb db (vl' : Int) 0 (fun _ => 0)).toArray 49)) := ((Keeps.refl _ W3).alloc _).alloc _
  have eq5 : ((W3.alloc (.cells #[.pointer (some ⟨mb, 0, none⟩), .pointer (some ⟨wb, 0, none⟩), .pointer (some ⟨gb, 0, none⟩), .pointer (some ⟨db, 0, none⟩)] 46)).alloc (.cells (fck mb wb gb db (vl' : Int) 0 (fun _ => 0)).toArray 49)) = (W3.alloc (.cells #[.pointer (some ⟨mb, 0, none⟩), .pointer (some ⟨wb, 0, none⟩), .pointer (some ⟨gb, 0, none⟩), .pointer (some ⟨db, 0, none⟩)] 46)).alloc (.cells #[.pointer (some ⟨mb, 0, none⟩), .pointer (some ⟨wb, 0, none⟩), .pointer (some ⟨gb, 0, none⟩), .pointer (some ⟨db, 0, none⟩), .int .i64 (vl' : Int), .pointer none, .pointer none, .pointer none, .pointer none, .int .i64 0] 49) := rfl
  rw [show (W3.alloc (.cells #[.pointer (some ⟨mb, 0, none⟩), .pointer (some ⟨wb, 0, none⟩), .pointer (some ⟨gb, 0, none⟩), .pointer (some ⟨db, 0, none⟩)] 46)).heap.size = W3.heap.size + 1 by simp] at hc5
  rw [eq5] at hS5 hc5 k5
  have HS5 : Hid (CL ((W3.alloc (.cells #[.pointer (some ⟨mb, 0, none⟩), .pointer (some ⟨wb, 0, none⟩), .pointer (some ⟨gb, 0, none⟩), .pointer (some ⟨db, 0, none⟩)] 46)).alloc (.cells #[.pointer (some ⟨mb, 0, none⟩), .pointer (some ⟨wb, 0, none⟩), .pointer (some ⟨gb, 0, none⟩), .pointer (some ⟨db, 0, none⟩), .int .i64 (vl' : Int), .pointer none, .pointer none, .pointer none, .pointer none, .int .i64 0] 49)) W3.heap.size [.pointer (some ⟨mb, 0, none⟩), .pointer (some ⟨wb, 0, none⟩), .pointer (some ⟨gb, 0, none⟩), .pointer (some ⟨db, 0, none⟩)]) := hS5
  clear eq5 hS5 hS4
  go_wp2_with fail
  clear c3
  generalize (W3.alloc (.cells #[.pointer (some ⟨mb, 0, none⟩), .pointer (some ⟨wb, 0, none⟩), .pointer (some ⟨gb, 0, none⟩), .pointer (some ⟨db, 0, none⟩)] 46)).alloc (.cells #[.pointer (some ⟨mb, 0, none⟩), .pointer (some ⟨wb, 0, none⟩), .pointer (some ⟨gb, 0, none⟩), .pointer (some ⟨db, 0, none⟩), .int .i64 (vl' : Int), .pointer none, .pointer none, .pointer none, .pointer none, .int .i64 0] 49) = W5 at *
  have l5 : W3.heap.size + 1 < W5.heap.size := hc5.lt (by show 0 < 10; decide)
  have q5 : ∀ (a : Addr) (w : World), (binOp .eql 40 (.pointer (some a)) (.pointer none)).run Tryz.prog w = .ok (.bool false) w := fun _ _ => rfl
  have hPk : ∀ W, Keeps (fun q => q = W3.heap.size + 1) W5 W → Calls Tryz.prog 17 #[.pointer (some ⟨mb, 0, none⟩), .int .i64 0] W fun e w' => (∃ v : Int, e = .returned (.tuple #[.int .i64 v, .int .i64 0])) ∧ w' = W := fun W K => by
    obtain ⟨ρ, st, _⟩ := hS.st
    have stW := st_wr0 st ((k5.mono (fun _ _ e => e.elim)).trans K) (fun i hi e => by omega)
    have hl := nm_len (om f s) vl'
    exact (speek stW (c := 0) (by rw [hl]; omega)).mono (fun e w' h => ⟨⟨_, h.1⟩, h.2.symm⟩)
  go_loopw [7] (fun iv Wr => ∃ (k : Nat) (tb : Nat → Nat), k ≤ 4 ∧ iv = .int .i64 (k : Int) ∧ OK W5 (W3.heap.size + 1) mb wb gb db (vl' : Int) k tb Wr) (fun iv _ => 4 - (intOf iv).toNat)
  case atStart => exact ⟨0, fun _ => 0, by omega, rfl, ⟨hc5, Keeps.refl _ _, fun i hi => by omega, fun i j _ hj => by omega, fun i hi => by omega⟩⟩
  case round =>
    obtain ⟨k, tb, hk4, rfl, ho⟩ := hrel
    by_cases hlt : k < 4
    · have hSr := HS5.out.keep (by show 0 < 4; decide) ho.kk (show ¬ W3.heap.size = W3.heap.size + 1 by omega)
      have s0 := hSr.c 0 _ rfl
      have s1 := hSr.c 1 _ rfl
      have s2 := hSr.c 2 _ rfl
      have s3 := hSr.c 3 _ rfl
      have hw10 : IntKind.i64.wrap (10 + (k : Int)) = 10 + (k : Int) := by rw [IntKind.wrap_i64]; omega
      have hltI : (k : Int) < 4 := by omega
      have hNew := t_new (w := wr) (mb := mb) (wb := wb) (gb := gb) (db := db) (fun W K => hPk W (ho.kk.trans (K.mono (fun _ _ e => e.elim)))) (k : Int) (10 + (k : Int))
      have HO : Hid (OK W5 (W3.heap.size + 1) mb wb gb db (vl' : Int) k tb wr) := ho
      clear ho hSr
      go_wp2_with fail
      refine hNew.mono ?_
      clear hNew
      rintro e Wn ⟨t, rfl, ht, hcn, kn⟩
      have hf := HO.out.cl.keep (by show 0 < 10; decide) kn (fun e => e)
      rcases (by omega : k = 0 ∨ k = 1 ∨ k = 2 ∨ k = 3) with rfl | rfl | rfl | rfl
      · have y := hf.c 5 _ rfl
        have yz := hf.z 5 (by show 5 < 10; decide)
        clear hf s0 s1 s2 s3
        go_wp2_with (go_at_call 12; refine (num_r _ _).mono ?_; rintro e Wq ⟨rfl, rfl⟩)
        go_roundw
        case rel => exact ⟨0 + 1, _, by omega, by go_num, HO.out.next (by omega) ht hcn kn l5⟩
        case measure => simp [intOf]
      · have y := hf.c 6 _ rfl
        have yz := hf.z 6 (by show 6 < 10; decide)
        clear hf s0 s1 s2 s3
        go_wp2_with (go_at_call 12; refine (num_r _ _).mono ?_; rintro e Wq ⟨rfl, rfl⟩)
        go_roundw
        case rel => exact ⟨1 + 1, _, by omega, by go_num, HO.out.next (by omega) ht hcn kn l5⟩
        case measure => simp [intOf]
      · have y := hf.c 7 _ rfl
        have yz := hf.z 7 (by show 7 < 10; decide)
        clear hf s0 s1 s2 s3
        go_wp2_with (go_at_call 12; refine (num_r _ _).mono ?_; rintro e Wq ⟨rfl, rfl⟩)
        go_roundw
        case rel => exact ⟨2 + 1, _, by omega, by go_num, HO.out.next (by omega) ht hcn kn l5⟩
        case measure => simp [intOf]
      · have y := hf.c 8 _ rfl
        have yz := hf.z 8 (by show 8 < 10; decide)
        clear hf s0 s1 s2 s3
        go_wp2_with (go_at_call 12; refine (num_r _ _).mono ?_; rintro e Wq ⟨rfl, rfl⟩)
        go_roundw
        case rel => exact ⟨3 + 1, _, by omega, by go_num, HO.out.next (by omega) ht hcn kn l5⟩
        case measure => simp [intOf]
    · obtain rfl : k = 4 := by omega
      go_wp2_with fail
      obtain ⟨ρ, F, D, ol⟩ := ho.fm hS (hT2.keep (Keeps.refl _ _)) hx k5 ⟨by omega, l5⟩
      have kW : Keeps (fun _ => False) w wr := (((k0.trans k1).trans' k2 (fun _ _ e => e) (fun i hi e => by omega)).trans hS.k |>.trans k5).trans' ho.kk (fun _ _ e => e) (fun i hi e => by omega)
      refine bodyPost_ret (v := .tuple #[.pointer (some ⟨W3.heap.size + 1, 0, none⟩), .bool true]) (by simp [results, Tryz.f8, go_sem]) rfl ⟨W3.heap.size + 1, ρ, _, _, xs, kd, p, _, _, vl', rfl, F, D, fq0 kd z' h8 hf hs, fb0 z' h8 f s, ⟨h0, h8⟩, by simp [nw], ?_, by simp [nw], fun q hq => ol q (by omega), by omega, kW⟩
      exact ni_valb (om f s) vl' (show 0 < 2 by omega)
end
end Go.Proofs.YtgjndhbfjofkeaaGreatDoor

namespace Go.Proofs.YtgjndhbfjofkeaaGreatDoor
open Go.RowKit
attribute [local go_sem] Oper.semAt_some run_store_nf run_store_f
section
variable {w w' : World} {ρ lb : Nat → Nat} {u j ab tb mb wb gb db : Nat} {T : Tr} {B : Bk} {nd kr kd t i : Nat} {xs : Nat → Int} {p : Int} {P : Nat → Pt} {s : Ws} {m : Mm} {x : Tx} {c : Sc}
set_option maxHeartbeats 1600000 in
set_option maxRecDepth 1000000 in
theorem t_number (h : CL w tb (T.cells mb wb gb db)) (ha : T.a = some ab) (hx : CL w ab (x.cells c ab)) : Calls Tryz.prog 13 #[.pointer (some ⟨tb, 0, none⟩)] w fun e w' => e = .returned (.int .i64 (x.no : Int)) ∧ w' = w := by
  have hi := t_present h
  rw [ha] at hi
  have f0 := h.c 0 _ rfl
  rw [ha] at f0
  have hs := number_tell hx
  have hp : ∀ w : World, (binOp .eql 86 (.pointer (some ⟨ab, 0, none⟩)) (.pointer none)).run Tryz.prog w = .ok (.bool false) w := fun _ => rfl
  simp only [apv] at f0 hi
  clear h ha hx
  go_enter Tryz.func13, Tryz.ntmps13
  go_wp2_with (first | (go_at_call 36; refine (hi).mono ?_; rintro e w1 ⟨rfl, rfl⟩) | (go_at_call 37; refine (hs).mono ?_; rintro e w1 ⟨rfl, rfl⟩))
  go_ret
  exact ⟨rfl, rfl⟩
def Pt.rank (q : Pt) : Int := match q.T.a with
  | none => 0
  | some _ => q.x.rank
theorem FM.t_rank (h : FM w ρ lb u j B nd xs kr kd p P s m) (hi : i < 4) : Calls Tryz.prog 19 #[.pointer (some ⟨B.tb i, 0, none⟩)] w fun e w' => e = .returned (.int .i64 (P i).rank) ∧ w' = w := by
  unfold Pt.rank
  cases ha : (P i).T.a with
  | none => exact t_rank_of (h.tc i hi).1 (q := none) (by rw [ha]; rfl) (rank_nil w)
  | some ab => exact t_rank_of (h.tc i hi).1 (q := some ⟨ab, 0, none⟩) (by rw [ha]; rfl) (rank_tell (h.ax i ab hi ha).ax.cl)
end
end Go.Proofs.YtgjndhbfjofkeaaGreatDoor

namespace Go.Proofs.YtgjndhbfjofkeaaGreatDoor
open Go.RowKit
structure Mv where
  p : Int
  a : Int
  x : Int
def mv0 : Mv := ⟨0, 0, 0⟩
instance : Inhabited Mv := ⟨mv0⟩
def MVL (w : World) (a : Option Addr) (l : List Mv) : Prop :=
  l.length = 0 ∨ ∃ b off, a = some ⟨b, off, none⟩ ∧ b < w.heap.size ∧ ∀ i, i < l.length → w.cell? ⟨b, off + i * 3, none⟩ = some (.int .i64 (l.getD i mv0).p) ∧ w.cell? ⟨b, off + i * 3 + 1, none⟩ = some (.int .i64 (l.getD i mv0).a) ∧ w.cell? ⟨b, off + i * 3 + 2, none⟩ = some (.int .i64 (l.getD i mv0).x)
theorem MVL.keep {w w' : World} {a : Option Addr} {l : List Mv} (h : MVL w a l) (k : Keeps (fun _ => False) w w') : MVL w' a l := by
  rcases h with h | ⟨b, off, rfl, hb, h⟩
  · exact .inl h
  · exact .inr ⟨b, off, rfl, Nat.lt_of_lt_of_le hb k.size, fun i hi => ⟨k.cell (h i hi).1 id, k.cell (h i hi).2.1 id, k.cell (h i hi).2.2 id⟩⟩
theorem MVL.some {w : World} {a : Option Addr} {l : List Mv} (h : MVL w a l) (hl : 0 < l.length) : ∃ b off, a = Option.some ⟨b, off, none⟩ ∧ ∀ i, i < l.length → w.cell? ⟨b, off + i * 3, none⟩ = Option.some (.int .i64 (l.getD i mv0).p) ∧ w.cell? ⟨b, off + i * 3 + 1, none⟩ = Option.some (.int .i64 (l.getD i mv0).a) ∧ w.cell? ⟨b, off + i * 3 + 2, none⟩ = Option.some (.int .i64 (l.getD i mv0).x) := by
  obtain ⟨b, off, e, _, h⟩ := h.resolve_left (by omega)
  exact ⟨b, off, e, h⟩
structure PI (w0 : World) (fb : Nat) (B : Bk) (nd : Nat) (xs : Nat → Int) (kd : Nat) (p : Int) (n t : Nat) (ρ lb : Nat → Nat) (P : Nat → Pt) (s : Ws) (m : Mm) (W : World) : Prop where
  fm : ∃ kr, FM W ρ lb 1 2 B nd xs kr kd p P s m
  fd : ∃ st, FD W ρ lb B fb (n : Int) st ∧ FB t s m st
  fq : FQ kd t P s m
  nn : 0 < n ∧ n ≤ 8 ∧ n = s.objs.length
  old : ∀ k, k < w0.heap.size → ρ k = 0 ∧ lb k ≤ 1
  wf : w0.heap.size ≤ fb
  k : Keeps (fun _ => False) w0 W
structure Ow (w0 : World) (fb : Nat) (ρ lb : Nat → Nat) (b : Nat) : Prop where
  r : ρ b = 0
  l : lb b = 0
  o : w0.heap.size ≤ b
  f : b ≠ fb
section
variable {w0 W W' : World} {fb nd kd n t i : Nat} {B : Bk} {xs : Nat → Int} {p : Int} {ρ lb ρ' lb' : Nat → Nat} {P : Nat → Pt} {s s' : Ws} {m m' : Mm}
theorem PI.own (h : PI w0 fb B nd xs kd p n t ρ lb P s m W) {S : Nat → Prop} (k : Keeps S W W') (hS : ∀ i, i < W.heap.size → S i → Ow w0 fb ρ lb i) : PI w0 fb B nd xs kd p n t ρ lb P s m W' := by
  obtain ⟨kr, F⟩ := h.fm
  obtain ⟨st, d, b⟩ := h.fd
  have fl := d.cl.lt (by show 0 < 10; decide)
  exact ⟨⟨kr, F.own k (fun i hi e => ⟨(hS i hi e).r, (hS i hi e).l⟩)⟩, ⟨st, ⟨d.cl.keep (by show 0 < 10; decide) k (fun e => (hS fb fl e).f rfl), d.r, d.l⟩, b⟩, h.fq, h.nn, h.old, h.wf, h.k.trans' k (fun _ _ e => e) (fun i hi e => by have := (hS i (Nat.lt_of_lt_of_le hi h.k.size) e).o; omega)⟩
theorem PI.new (h : PI w0 fb B nd xs kd p n t ρ lb P s m W) (k : Keeps (fun _ => False) W W') : PI w0 fb B nd xs kd p n t ρ lb P s m W' := h.own k (fun _ _ e => e.elim)
theorem PI.ow (h : PI w0 fb B nd xs kd p n t ρ lb P s m W) {b : Nat} (hb : W.heap.size ≤ b) : Ow w0 fb ρ lb b := by
  obtain ⟨kr, F⟩ := h.fm
  obtain ⟨st, d, _⟩ := h.fd
  have fl := d.cl.lt (by show 0 < 10; decide)
  exact ⟨F.st.bnd b hb, F.bd b hb, Nat.le_trans h.k.size hb, by omega⟩
theorem Ow.fx (h : Ow w0 fb ρ lb i) (hi : i < W.heap.size) (x : FX 1 2 fb W W' ρ ρ' lb lb') : Ow w0 fb ρ' lb' i := by
  have o := x.old i hi
  exact ⟨o.1.trans h.r, o.2.trans h.l, h.o, h.f⟩
theorem Ow.no (h : Ow w0 fb ρ lb i) : ¬ (Sr 1 2 (ρ i) ∨ 2 ≤ lb i ∨ i = fb) := fun e => by
  rcases e with e | e | e
  · rw [h.r] at e; unfold Sr at e; omega
  · rw [h.l] at e; omega
  · exact h.f e
theorem MO.objs {kd t i : Nat} {st : Int} {p p' : Pt} {s s' : Ws} {m m' : Mm} {r : Ro} {b : Bool} (h : MO kd t i st p p' s m r b s' m') : s'.objs = s.objs := by
  cases h with
  | over h hb hr hp hs hm => rw [hs]
  | ask h ab ha hal hb hr hm sa => exact sa.ln.2.2
  | step h hb si =>
    cases si with
    | begin ab c a e hc hp hs hm => rw [hs]; rfl
    | again ab0 ab q c a d hq e hc hp hs hm => rw [hs]; rfl
    | go ab r0 a al e hT sp po => exact po.gw.ob
theorem PI.mv (h : PI w0 fb B nd xs kd p n t ρ lb P s m W) (ht : t ≤ 5000) (hi : i < 4) (mp ma mx : Int) (hmp : mp % 4 = (i : Int)) :
    Calls Tryz.prog 9 #[.pointer (some ⟨fb, 0, none⟩), .agg #[.int .i64 mp, .int .i64 ma, .int .i64 mx]] W fun e w' => ∃ r b p' s' m' ρ' lb' st, e = .returned (.tuple #[.agg r.cells.toArray, .bool b, .bool true]) ∧ PI w0 fb B nd xs kd p n (t + 1) ρ' lb' (fun k => if k = i then p' else P k) s' m' w' ∧ FX 1 2 fb W w' ρ ρ' lb lb' ∧ MO kd t i st (P i) p' s m r b s' m' := by
  obtain ⟨kr, F⟩ := h.fm
  obtain ⟨st, d, b⟩ := h.fd
  have nn := h.nn
  refine (f_move F d h.fq b (by omega) (by omega) ht hi mp ma mx hmp).mono ?_
  rintro e w' ⟨r, bb, p', s', m', kr', ρ', lb', st', rfl, F', Q', X', D', B', mo⟩
  refine ⟨r, bb, p', s', m', ρ', lb', st, rfl, ⟨⟨kr', F'⟩, ⟨st', D', B'⟩, Q', by rw [mo.objs]; exact nn, fun k hk => ?_, h.wf, ?_⟩, X', mo⟩
  · have o := X'.old k (Nat.lt_of_lt_of_le hk h.k.size)
    have q := h.old k hk
    exact ⟨o.1.trans q.1, by rw [o.2]; exact q.2⟩
  · refine h.k.trans' X'.keeps (fun _ _ e => e) (fun k hk e => ?_)
    have q := h.old k hk
    have := h.wf
    rcases e with e | e | e
    · rw [q.1] at e; unfold Sr at e; omega
    · omega
    · omega
end
end Go.Proofs.YtgjndhbfjofkeaaGreatDoor

namespace Go.Proofs.YtgjndhbfjofkeaaGreatDoor
open Go.RowKit Go.Deep Go.ChangeShapes Go.WideShapes Go.ChangeAt
theorem open_inner {H : Type} {enc : TypeId × Value → H} {P : Program} {W : World} {t e : TypeId} {fuel : Nat} {v : Value} {x : DataW H × List MemPlace} (ht : P.underlying t = some (.slice e)) (he : P.underlying e = some (.int .i64)) (hc : P.cellsOf e = 1)
    (h : DataW.trod enc P W 0 (fun _ => true) true fuel t [v] = some x) :
    ∃ (a : Option Addr) (len cap : Nat) (z : Nat → Int), v = .slice a len cap ∧ IsRaw W a len z ∧ (∀ i, In64 (z i)) ∧ len ≤ cap ∧ len ≤ 9223372036854775807 ∧ (len = 0 ∨ ∃ es ss, x.1 = .slice es ss ∧ len ≤ es.length + ss.length) := by
  rcases open_ints ht he hc h with ⟨hcs, _⟩ | ⟨a', l, c, zs, hcs, _, hl, hm, hz, hx, hcell, hwz⟩
  · simp at hcs
    exact ⟨none, 0, 0, fun _ => 0, hcs, .inl rfl, fun _ => by show In64 0; unfold In64; omega, Nat.le_refl _, by omega, .inl rfl⟩
  · simp at hcs hz
    have hml : l ≤ 9223372036854775807 := by unfold maxLen at hm; omega
    have hin : ∀ i, In64 (zs.getD i 0) := fun i => by
      by_cases hi : i < zs.length
      · refine in64_of_wf (hwz _ ?_)
        rw [List.getD_eq_getElem?_getD, List.getElem?_eq_getElem hi]
        exact List.getElem_mem _
      · rw [List.getD_eq_getElem?_getD, List.getElem?_eq_none (by omega)]
        show In64 0
        unfold In64; omega
    refine ⟨some a', l, c, fun i => zs.getD i 0, hcs, ?_, hin, hl, hml, ?_⟩
    · by_cases h0 : l = 0
      · exact .inl h0
      · obtain ⟨b, off, spot⟩ := a'
        have hc0 := hcell 0 (by omega)
        have hspot : spot = none := by simpa [Addr.add] using World.cell?_spot hc0
        subst hspot
        rw [add_at] at hc0
        exact .inr ⟨b, off, rfl, World.block_lt_of_cell? _ _ hc0, fun i hi => by have g := hcell i (by omega); rwa [add_at] at g⟩
    · by_cases h0 : l = 0
      · exact .inl h0
      · exact .inr ⟨_, _, by rw [hx], by simp [lits]; omega⟩
theorem open_setup {H : Type} {enc : TypeId × Value → H} {P : Program} {W : World} {r : Reach} {b0 : Nat} {e e2 : TypeId} {f0 f1 f2 f3 f4 f5 : Field} {v : Value} {d : DataW H} {ps : List MemPlace}
    (hs : P.underlying e = some (.struct #[f0, f1, f2, f3, f4, f5])) (ce : P.cellsOf e = 6) (o0 : f0.offset = 0) (o1 : f1.offset = 1) (o2 : f2.offset = 2) (o3 : f3.offset = 3) (o4 : f4.offset = 4) (o5 : f5.offset = 5) (c0 : P.cellsOf f0.type = 1) (c1 : P.cellsOf f1.type = 1) (c2 : P.cellsOf f2.type = 1) (c3 : P.cellsOf f3.type = 1) (c4 : P.cellsOf f4.type = 1) (c5 : P.cellsOf f5.type = 1)
    (u0 : P.underlying f0.type = some (.int .i64)) (u1 : P.underlying f1.type = some (.int .i64)) (u2 : P.underlying f2.type = some (.slice e2)) (u3 : P.underlying f3.type = some (.slice e2)) (u4 : P.underlying f4.type = some (.int .i64)) (u5 : P.underlying f5.type = some (.int .i64)) (ue : P.underlying e2 = some (.int .i64)) (cc : P.cellsOf e2 = 1) (by8 : P.bytesOf e2 = 8)
    (hval : Value.okWide P W r b0 e v) (hd : DataW.Trod enc P W 0 (fun _ => true) true e v d ps) :
    ∃ (k pa f s : Int) (da va : Option Addr) (dl dc vl vc : Nat) (z xs : Nat → Int), v = .agg #[.int .i64 k, .int .i64 pa, .slice da dl dc, .slice va vl vc, .int .i64 f, .int .i64 s] ∧ IsRaw W va vl z ∧ vl ≤ vc ∧ vl ≤ 9223372036854775807 ∧ IsRaw W da dl xs ∧ (∀ i, In64 (xs i)) ∧ In64 f ∧ In64 s ∧ ((∀ n ∈ d.weights P e, n ≤ reachBytes) → dl ≤ 17592186044416) := by
  obtain ⟨cs, rfl, hsz⟩ := okWide_struct hs hval
  rw [ce] at hsz
  obtain ⟨fuel, h2⟩ := hd
  obtain ⟨xs, k, hk, hxy, _, hxl, hf⟩ := DataW.trod_struct hs h2
  obtain ⟨cl⟩ := cs
  simp only [List.size_toArray] at hsz
  match xs, hxl, cl, hsz with
  | [y0, y1, y2, y3, y4, y5], _, [v0, v1, v2, v3, v4, v5], _ =>
    have G0 := hf 0 f0 rfl
    have G1 := hf 1 f1 rfl
    have G2 := hf 2 f2 rfl
    have G3 := hf 3 f3 rfl
    have G4 := hf 4 f4 rfl
    have G5 := hf 5 f5 rfl
    simp [Value.cells, o0, o1, o2, o3, o4, o5, c0, c1, c2, c3, c4, c5] at G0 G1 G2 G3 G4 G5
    obtain ⟨q0, r0, _, w0⟩ := DataW.trod_int u0 G0
    obtain ⟨q1, r1, _, w1⟩ := DataW.trod_int u1 G1
    obtain ⟨da, dl, dc, zx, r2, nl2, in2, _, _, sz2⟩ := open_inner u2 ue cc G2
    obtain ⟨va, vl, vc, zv, r3, nl3, _, le3, ml3, _⟩ := open_inner u3 ue cc G3
    obtain ⟨q4, r4, _, w4⟩ := DataW.trod_int u4 G4
    obtain ⟨q5, r5, _, w5⟩ := DataW.trod_int u5 G5
    simp at r0 r1 r4 r5
    subst r0 r1 r2 r3 r4 r5
    refine ⟨q0, q1, q4, q5, da, va, dl, dc, vl, vc, zv, zx, rfl, nl3, le3, ml3, nl2, in2, in64_of_wf w4, in64_of_wf w5, fun hw => ?_⟩
    rcases sz2 with g | ⟨es, ss, e2', hle⟩
    · omega
    · have hd' : d = .agg [y0.1, y1.1, y2.1, y3.1, y4.1, y5.1] := by simpa using congrArg Prod.fst hxy
      have hm : (es.length + ss.length) * P.bytesOf e2 ∈ d.weights P e := by
        rw [hd']
        simp only [DataW.weights, hs]
        refine DataW.weights_mem_each (j := 2) (t := f2.type) (d := y2.1) rfl rfl _ ?_
        rw [e2']
        simp [DataW.weights, u2]
      have g := hw _ hm
      rw [by8] at g
      have r8 : reachBytes = 140737488351232 := by decide
      omega
theorem open_mvs {H : Type} {enc : TypeId × Value → H} {P : Program} {W : World} {spare : Nat → Bool} {held : Bool} {t e : TypeId} {f0 f1 f2 : Field} {fuel : Nat} {a : Option Addr} {len cap : Nat} {x : DataW H × List MemPlace}
    (ht : P.underlying t = some (.slice e)) (hs : P.underlying e = some (.struct #[f0, f1, f2])) (ce : P.cellsOf e = 3) (o0 : f0.offset = 0) (o1 : f1.offset = 1) (o2 : f2.offset = 2) (c0 : P.cellsOf f0.type = 1) (c1 : P.cellsOf f1.type = 1) (c2 : P.cellsOf f2.type = 1) (u0 : P.underlying f0.type = some (.int .i64)) (u1 : P.underlying f1.type = some (.int .i64)) (u2 : P.underlying f2.type = some (.int .i64))
    (h : DataW.trod enc P W 0 spare held fuel t [.slice a len cap] = some x) : ∃ l : List Mv, l.length = len ∧ MVL W a l ∧ len ≤ 9223372036854775807 := by
  by_cases h0 : len = 0
  · subst h0
    exact ⟨[], rfl, .inl rfl, by omega⟩
  rcases open_slice ht h with ⟨hcs, _⟩ | ⟨a', len', cap', m, n, D, Pl, hcs, hb, hl, hm, hmm, rfl, hx⟩
  · simp at hcs; omega
  simp at hcs
  obtain ⟨rfl, rfl, rfl⟩ := hcs
  have hlm : len ≤ m := by rw [hmm]; split <;> omega
  have each : ∀ i, i < len → ∃ q : Mv, W.cell? (a'.add (i * 3)) = some (.int .i64 q.p) ∧ W.cell? (a'.add (i * 3 + 1)) = some (.int .i64 q.a) ∧ W.cell? (a'.add (i * 3 + 2)) = some (.int .i64 q.x) := by
    intro i hi
    obtain ⟨cs', h1, h2⟩ := hx i (by omega)
    rw [ce] at h1
    obtain ⟨_, hlen, hcell⟩ := World.cells?_some h1
    obtain ⟨xs, k, hk, hxy, _, hxl, hf⟩ := DataW.trod_struct hs h2
    match xs, hxl, cs', hlen with
    | [y0, y1, y2], _, [v0, v1, v2], _ =>
      have G0 := hf 0 f0 rfl
      have G1 := hf 1 f1 rfl
      have G2 := hf 2 f2 rfl
      simp [o0, o1, o2, c0, c1, c2] at G0 G1 G2
      have e0 := hcell 0 (by omega)
      have e1 := hcell 1 (by omega)
      have e2 := hcell 2 (by omega)
      rw [add_add] at e0 e1 e2
      obtain ⟨q0, r0, _, _⟩ := DataW.trod_int u0 G0
      obtain ⟨q1, r1, _, _⟩ := DataW.trod_int u1 G1
      obtain ⟨q2, r2, _, _⟩ := DataW.trod_int u2 G2
      simp at r0 r1 r2
      subst r0 r1 r2
      exact ⟨⟨q0, q1, q2⟩, by simpa using e0, by simpa using e1, by simpa using e2⟩
  obtain ⟨b, off, spot⟩ := a'
  obtain ⟨_, z0, _⟩ := each 0 (by omega)
  have hspot : spot = none := by simpa [Addr.add] using World.cell?_spot z0
  subst hspot
  rw [add_at] at z0
  obtain ⟨V, hV⟩ := choose_lt each
  have ha : ∀ i, i < len → ((List.range len).map V).getD i mv0 = V i := fun i hi => by simp [List.getD_eq_getElem?_getD, hi]
  refine ⟨(List.range len).map V, by simp, .inr ⟨b, off, rfl, World.block_lt_of_cell? _ _ z0, fun i hi => ?_⟩, by unfold maxLen at hm; omega⟩
  simp at hi
  obtain ⟨z0, z1, z2⟩ := hV i hi
  rw [ha i hi]
  exact ⟨by simpa [add_at] using z0, by simpa [add_at, Nat.add_assoc] using z1, by simpa [add_at, Nat.add_assoc] using z2⟩
end Go.Proofs.YtgjndhbfjofkeaaGreatDoor

namespace Go.Proofs.YtgjndhbfjofkeaaGreatDoor
open Go.RowKit
attribute [local go_sem] Oper.semAt_some run_store_nf run_store_f
section
variable {w w' : World} {ρ : Nat → Nat} {u j wb mb : Nat} {s : Ws} {m : Mm}
set_option maxHeartbeats 800000 in
set_option maxRecDepth 1000000 in
theorem owner_ok (h : St w ρ u j wb mb s m) {i : Nat} (hi : i < s.atts.length) :
    Calls Tryz.prog 11 #[.pointer (some ⟨wb, 0, none⟩), .int .i64 (i : Int)] w fun e w' => e = .returned (.tuple #[.agg #[.int .i64 (s.att i).thread, .int .i64 (s.att i).stamp, .int .i64 (s.att i).prio], .int .i64 0]) ∧ Keeps (fun _ => False) w w' := by
  obtain ⟨w0, hw0⟩ : ∃ w0, w0 = w.alloc (.cells #[.int .i64 0, .int .i64 0, .int .i64 0] 51) := ⟨_, rfl⟩
  have k0 : Keeps (fun _ => False) w w0 := by rw [hw0]; exact (Keeps.refl _ w).alloc _
  have hO : CL w0 w.heap.size [.int .i64 0, .int .i64 0, .int .i64 0] := by rw [hw0]; exact CL.made w [.int .i64 0, .int .i64 0, .int .i64 0] _
  obtain ⟨h0, _⟩ := h.new k0
  obtain ⟨vo, va, vl, vn, hw⟩ := h0.wj
  obtain ⟨g, hg, rg, lg, c0, c1, c2, _⟩ := hw.att hi
  have ng : ¬ g = w.heap.size := fun e => by
    have b := h.bnd w.heap.size (Nat.le_refl _)
    rw [← e] at b
    omega
  have ng' : ¬ w.heap.size = g := by omega
  have e0 := hO.c 0 _ rfl
  have e1 := hO.c 1 _ rfl
  have e2 := hO.c 2 _ rfl
  have z0 := hO.z 0 (by show 0 < 3; decide)
  have z1 := hO.z 1 (by show 1 < 3; decide)
  have z2 := hO.z 2 (by show 2 < 3; decide)
  go_enter Tryz.func11, Tryz.ntmps11
  go_wp2_with fail
  rw [← hw0]
  clear hw0
  refine (attempt_ok hw hi hg).mono ?_
  rintro e w1 ⟨rfl, rfl⟩
  have q5 : ∀ (a : Addr) (w : World), (binOp .eql 82 (.pointer (some a)) (.pointer none)).run Tryz.prog w = .ok (.bool false) w := fun _ _ => rfl
  have k1 := (((Keeps.refl (fun k => k = w.heap.size) w0).setA 0 (.int .i64 (s.att i).thread)).setA 1 (.int .i64 (s.att i).stamp)).setA 2 (.int .i64 (s.att i).prio)
  clear hw h0
  go_wp2_with fail
  refine bodyPost_ret (v := .tuple #[.agg #[.int .i64 (s.att i).thread, .int .i64 (s.att i).stamp, .int .i64 (s.att i).prio], .int .i64 0]) (by rw [results_cell_tmp rfl]; go_simp) rfl ⟨rfl, k0.trans' k1 (fun _ _ e => e) (fun i hi e => by omega)⟩
end
end Go.Proofs.YtgjndhbfjofkeaaGreatDoor

namespace Go.Proofs.YtgjndhbfjofkeaaGreatDoor
open Go.RowKit
attribute [local go_sem] Oper.semAt_some run_store_nf run_store_f
section
variable {w w' : World} {b o : Nat} {r : Ro} {bg tr en : Int}
end
end Go.Proofs.YtgjndhbfjofkeaaGreatDoor

namespace Go.Proofs.YtgjndhbfjofkeaaGreatDoor
open Go.RowKit
structure LI (bg tr en oc : Int) (p : Pt) : Prop where
  bg : (p.T.a = none ∧ bg = 0) ∨ (p.T.a ≠ none ∧ bg = 1)
  tr : tr = p.T.tr
  oc : oc = p.T.oc
  al : ∀ ab, p.T.a = some ab → p.x.alive = true → en = 0
  de : ∀ ab, p.T.a = some ab → p.x.alive = false → p.T.oc = 0 → en = 4 ∨ en = 5
  ou : p.T.oc ≠ 0 → en ≠ 4 ∧ en ≠ 5
section
variable {kd t i : Nat} {p p' : Pt} {s s' : Ws} {m m' : Mm} {r : Ro} {bg tr en oc : Int}
end
end Go.Proofs.YtgjndhbfjofkeaaGreatDoor

