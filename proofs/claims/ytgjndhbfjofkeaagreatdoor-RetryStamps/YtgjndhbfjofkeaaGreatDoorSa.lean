import Derived.Test.YtgjndhbfjofkeaaGreatDoorG27
import Derived.Test.YtgjndhbfjofkeaaGreatDoorG34
namespace Go.Proofs.YtgjndhbfjofkeaaGreatDoor
section
open Go.RowKit
attribute [local go_sem] Oper.semAt_some run_store_nf run_store_f
variable {w w' : World} {ρ ρ' ρ'' : Nat → Nat} {u j : Nat} {c : Sc} {ab rb n n' : Nat} {x x' : Tx} {f f' : Int → Option Nat} {s s' : Ws} {m m' : Mm} {r r' : Ro} {g nd kr kd t tb mb wb gb db : Nat} {xs : Nat → Int} {rs rs' : List Rd} {p : Int} {T : Tr}
set_option maxHeartbeats 800000 in
set_option maxRecDepth 1000000 in
theorem t_stamp (h : CL w tb (T.cells mb wb gb db)) : Calls Tryz.prog 14 #[.pointer (some ⟨tb, 0, none⟩)] w fun e w' => e = .returned (.int .i64 T.st) ∧ w' = w := by
  have hi := t_isNone h
  have f7 := h.c 7 _ rfl
  clear h
  go_enter Tryz.func14, Tryz.ntmps14
  go_wp2_with (go_at_call 38; refine (hi).mono ?_; rintro e w1 ⟨rfl, rfl⟩)
  go_ret
  exact ⟨rfl, rfl⟩
end
open Go.RowKit
/-- A stamp, 0 ahead of the begin. -/
def Pt.stv (p : Pt) : Int := if p.T.a = none then 0 else p.T.st
def Pt.prv (p : Pt) : Int := if p.T.a = none then 0 else p.T.pr
def Pt.bgn (p : Pt) : Int := if p.T.a = none then 0 else 1
def st4 (P : Nat → Pt) : List Value := [.int .i64 (P 0).stv, .int .i64 (P 1).stv, .int .i64 (P 2).stv, .int .i64 (P 3).stv]
def pr4 (P : Nat → Pt) : List Value := [.int .i64 (P 0).prv, .int .i64 (P 1).prv, .int .i64 (P 2).prv, .int .i64 (P 3).prv]
def bg4 (P : Nat → Pt) : Int := (P 0).bgn + (P 1).bgn + (P 2).bgn + (P 3).bgn
theorem bgn_le (p : Pt) : 0 ≤ p.bgn ∧ p.bgn ≤ 1 := by unfold Pt.bgn; split <;> omega
theorem bg4_le (P : Nat → Pt) : 0 ≤ bg4 P ∧ bg4 P ≤ 4 := by
  have a := bgn_le (P 0); have b := bgn_le (P 1); have c := bgn_le (P 2); have d := bgn_le (P 3)
  unfold bg4; omega
theorem bg4_pos {P : Nat → Pt} (h : (P 0).T.a ≠ none) : 1 ≤ bg4 P := by
  have b := bgn_le (P 1); have c := bgn_le (P 2); have d := bgn_le (P 3)
  have a : (P 0).bgn = 1 := by unfold Pt.bgn; rw [if_neg h]
  unfold bg4; omega
theorem bg4_same {P : Nat → Pt} {i : Nat} {p' : Pt} (hi : i < 4) (h : p'.bgn = (P i).bgn) : bg4 (fun k => if k = i then p' else P k) = bg4 P := by
  unfold bg4
  rcases (by omega : i = 0 ∨ i = 1 ∨ i = 2 ∨ i = 3) with rfl | rfl | rfl | rfl <;> simp [h]
theorem bg4_more {P : Nat → Pt} {i : Nat} {p' : Pt} (hi : i < 4) (h : p'.bgn = (P i).bgn + 1) : bg4 (fun k => if k = i then p' else P k) = bg4 P + 1 := by
  unfold bg4
  rcases (by omega : i = 0 ∨ i = 1 ∨ i = 2 ∨ i = 3) with rfl | rfl | rfl | rfl <;> simp [h] <;> omega
theorem st4_get {P : Nat → Pt} {i : Nat} (hi : i < 4) : (st4 P)[i]? = some (.int .i64 (P i).stv) := by
  rcases (by omega : i = 0 ∨ i = 1 ∨ i = 2 ∨ i = 3) with rfl | rfl | rfl | rfl <;> rfl
theorem pr4_get {P : Nat → Pt} {i : Nat} (hi : i < 4) : (pr4 P)[i]? = some (.int .i64 (P i).prv) := by
  rcases (by omega : i = 0 ∨ i = 1 ∨ i = 2 ∨ i = 3) with rfl | rfl | rfl | rfl <;> rfl
theorem st4_set {P : Nat → Pt} {i : Nat} {p' : Pt} (hi : i < 4) : (st4 P).set i (.int .i64 p'.stv) = st4 (fun k => if k = i then p' else P k) := by
  rcases (by omega : i = 0 ∨ i = 1 ∨ i = 2 ∨ i = 3) with rfl | rfl | rfl | rfl <;> rfl
theorem pr4_set {P : Nat → Pt} {i : Nat} {p' : Pt} (hi : i < 4) : (pr4 P).set i (.int .i64 p'.prv) = pr4 (fun k => if k = i then p' else P k) := by
  rcases (by omega : i = 0 ∨ i = 1 ∨ i = 2 ∨ i = 3) with rfl | rfl | rfl | rfl <;> rfl
theorem st4_same {P : Nat → Pt} {i : Nat} {p' : Pt} (hi : i < 4) (h : p'.stv = (P i).stv) : st4 P = st4 (fun k => if k = i then p' else P k) := by
  rw [← st4_set hi, h]
  rcases (by omega : i = 0 ∨ i = 1 ∨ i = 2 ∨ i = 3) with rfl | rfl | rfl | rfl <;> rfl
theorem pr4_same {P : Nat → Pt} {i : Nat} {p' : Pt} (hi : i < 4) (h : p'.prv = (P i).prv) : pr4 P = pr4 (fun k => if k = i then p' else P k) := by
  rw [← pr4_set hi, h]
  rcases (by omega : i = 0 ∨ i = 1 ∨ i = 2 ∨ i = 3) with rfl | rfl | rfl | rfl <;> rfl
theorem took_bump_cell (m : Mm) (hb : m.begun = true) (c : Nat) : (m.bump c).took.cell = (c : Int) := by
  unfold Mm.took
  rw [if_neg (by simp [Mm.bump, Mm.take, hb])]
  simp [Mm.bump, Mm.take, ra, Mm.row, List.getD_eq_getElem?_getD]
/-- What a move does to the stamps. -/
theorem stamp_mo {kd t i : Nat} {st : Int} {P : Nat → Pt} {p' : Pt} {s s' : Ws} {m m' : Mm} {r : Ro} {b : Bool} (h : MO kd t i st (P i) p' s m r b s' m') (hQ : FQ kd t P s m) (hi : i < 4) :
    (b = true ∧ r.kind = 1 ∧ r.seen = m.val 0 ∧ r.cell = 0 ∧ r.no = (p'.x.no : Int) ∧ p'.stv = m.val 0 ∧ p'.bgn = (P i).bgn + 1 ∧ m'.val 0 = wrap64 (m.val 0 + 1)) ∨
    ((b = false ∨ r.kind ≠ 1) ∧ p'.stv = (P i).stv ∧ p'.prv = (P i).prv ∧ p'.bgn = (P i).bgn ∧ m'.val 0 = m.val 0) := by
  have hq := hQ.pt i hi
  cases h with
  | over h hb hr hp hs hm => exact .inr ⟨.inl hb, by rw [hp], by rw [hp], by rw [hp], by rw [hm]⟩
  | ask h ab ha hal hb hr hm sa =>
    refine .inr ⟨.inl hb, ?_, ?_, ?_, by rw [hm]⟩
    · unfold Pt.stv; rw [sa.T]
    · unfold Pt.prv; rw [sa.T]
    · unfold Pt.bgn; rw [sa.T]
  | step h hb si =>
    cases si with
    | begin ab c a e hc hp hs hm =>
      subst hp
      refine .inl ⟨hb, ?_, ?_, ?_, ?_, ?_, ?_, ?_⟩
      · subst e; rfl
      · subst e; exact took_bump (m.begin st (i : Int)) rfl 0
      · subst e; exact took_bump_cell (m.begin st (i : Int)) rfl 0
      · subst e; rfl
      · unfold Pt.stv; rw [if_neg (by intro e; cases e)]; rfl
      · unfold Pt.bgn; rw [if_neg (by intro e; cases e), if_pos a]; rfl
      · have ck := ((hQ.same (m' := m.begin st (i : Int)) rfl (fun _ => rfl)).clock).2.2.2.2.1
        have cl := ((hQ.same (m' := m.begin st (i : Int)) rfl (fun _ => rfl)).clock).2.2.2.1
        subst hm
        rw [Mm.val_make, if_neg (by rw [Mm.len_make]; omega), Mm.val_make, if_neg (by omega), ck]
        rfl
    | again ab0 ab q c a d hq' e hc hp hs hm =>
      subst hp
      refine .inr ⟨.inr ?_, ?_, ?_, ?_, ?_⟩
      · subst e; show (2 : Int) ≠ 1; decide
      · unfold Pt.stv; rw [if_neg (by intro e; cases e), if_neg (by rw [a]; intro e; cases e)]; rfl
      · unfold Pt.prv; rw [if_neg (by intro e; cases e), if_neg (by rw [a]; intro e; cases e), hq']; rfl
      · unfold Pt.bgn; rw [if_neg (by intro e; cases e), if_neg (by rw [a]; intro e; cases e)]
      · have c0 := hQ.c0
        subst hm
        rw [Mm.val_make, if_neg (by rw [Mm.len_make]; exact fun e => by omega), Mm.val_make, if_neg (by show ¬ 0 = m.cells.length; omega)]
        rfl
    | go ab r0 a al e hT sp po =>
      have oT : (((P i).T.out r0.fin).a = (P i).T.a ∧ ((P i).T.out r0.fin).st = (P i).T.st) ∧ ((P i).T.out r0.fin).pr = (P i).T.pr := by unfold Tr.out; split <;> exact ⟨⟨rfl, rfl⟩, rfl⟩
      refine .inr ⟨.inr ?_, ?_, ?_, ?_, ?_⟩
      · subst e; exact po.sr.k12.1
      · unfold Pt.stv; rw [hT, oT.1.1, oT.1.2]
      · unfold Pt.prv; rw [hT, oT.1.1, oT.2]
      · unfold Pt.bgn; rw [hT, oT.1.1]
      · obtain ⟨q', e', h0, _⟩ := (hq.so ab a).rk
        refine (po.gw.pr 0 hQ.c0 hQ.f0 (fun y => ?_)).trans rfl
        have := y.2
        omega
end Go.Proofs.YtgjndhbfjofkeaaGreatDoor
