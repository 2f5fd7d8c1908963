import Derived.Test.YtdldhblhbbgloaaLocOM
namespace Go.Proofs.Ytdldhblhbbgloaa
open Go.RowKit
section
variable {s s' : Ws} {m m' : Mm} {o : Oq} {e n : Int} {d : Bool}
/-- The error that is told is the first one. -/
theorem Do.err (h : Do s m o s' m' e d n) : e = err s m o := by
  cases h with
  | idle h => rw [Go.Proofs.Ytdldhblhbbgloaa.err, if_neg (by omega), if_neg (by omega), if_neg (by omega), if_neg (by omega), if_neg (by omega), if_neg (by omega), if_neg (by omega)]
  | no _ _ _ _ hx => exact hx
  | att h hr => simp [Go.Proofs.Ytdldhblhbbgloaa.err, h, hr]
  | mk h x y ex ey h1 hx hy hC hr => rw [Go.Proofs.Ytdldhblhbbgloaa.err, if_neg (by omega), if_pos h, if_neg (by omega), if_neg (by omega), if_neg (by rw [ey, Int.toNat_natCast, hC]; decide), if_neg (by omega)]
  | put h x ex hx ho hC => rw [Go.Proofs.Ytdldhblhbbgloaa.err, if_neg (by omega), if_neg (by omega), if_pos h, if_neg (by omega), if_neg (by rw [ex, Int.toNat_natCast]; exact ho), if_neg (by rw [ex, Int.toNat_natCast, hC]; decide)]
  | load h x ex hx hf => rw [Go.Proofs.Ytdldhblhbbgloaa.err, if_neg (by omega), if_neg (by omega), if_neg (by omega), if_pos h, if_neg (by omega), if_pos hf]
  | acq h x y z ex ey ez hx hy hz hU hC hf => rw [Go.Proofs.Ytdldhblhbbgloaa.err, if_neg (by omega), if_neg (by omega), if_neg (by omega), if_neg (by omega), if_pos h, if_neg (by omega), if_neg (by omega), if_neg (by rw [ez, Int.toNat_natCast, hU]; decide), if_neg (by rw [ez, Int.toNat_natCast, hC]; decide), if_pos hf]
  | stat h x ex hx hf => rw [Go.Proofs.Ytdldhblhbbgloaa.err, if_neg (by omega), if_neg (by omega), if_neg (by omega), if_neg (by omega), if_neg (by omega), if_pos (by omega), if_neg (by omega), if_pos hf]
  | fin sv h x ex h1 hx hf => rw [Go.Proofs.Ytdldhblhbbgloaa.err, if_neg (by omega), if_neg (by omega), if_neg (by omega), if_neg (by omega), if_neg (by omega), if_neg (by omega), if_pos (by omega), if_neg (by omega), if_pos hf]
  | flag h x ex hx hf => rw [Go.Proofs.Ytdldhblhbbgloaa.err, if_neg (by omega), if_neg (by omega), if_neg (by omega), if_neg (by omega), if_neg (by omega), if_pos (by omega), if_neg (by omega), if_pos hf]
  | mark h x p q ex h1 hx hf _ => rw [Go.Proofs.Ytdldhblhbbgloaa.err, if_neg (by omega), if_neg (by omega), if_neg (by omega), if_neg (by omega), if_neg (by omega), if_neg (by omega), if_pos (by omega), if_neg (by omega), if_pos hf]
end
/-- Two worlds that look alike. -/
structure Sim (s : Ws) (m : Mm) (t : Ws) (l : Mm) : Prop where
  no : t.objs.length = s.objs.length
  na : t.atts.length = s.atts.length
  lo : t.locs = s.locs
  vl : t.vals = s.vals
  ob : ∀ i, i < s.objs.length → l.val (t.ob i) = m.val (s.ob i)
  st : ∀ i, i < s.atts.length → l.val (t.att i).status = m.val (s.att i).status
  fl : ∀ i, i < s.atts.length → l.val (t.att i).flag = m.val (s.att i).flag
section
variable {s t : Ws} {m l : Mm} {o : Oq}
theorem Sim.lo_ (h : Sim s m t l) (i : Nat) : t.lo i = s.lo i := by unfold Ws.lo; rw [h.lo]
theorem Sim.vl_ (h : Sim s m t l) (i : Nat) : t.vl i = s.vl i := by unfold Ws.vl; rw [h.vl]
theorem Sim.isC (h : Sim s m t l) {a : Nat} (ha : a < s.atts.length) : t.isC l a = s.isC m a := by
  show decide (l.val (t.att a).status = 2) = decide (m.val (s.att a).status = 2)
  rw [h.st a ha]
theorem Sim.err (h : Sim s m t l) (is : Inv s m) (hf : 8 ≤ o.kind ∧ o.kind ≤ 14 → l.free = m.free) (hr : t.roomA l = s.roomA m) : err t l o = err s m o := by
  have el : t.locs.length = s.locs.length := by rw [h.lo]
  unfold Go.Proofs.Ytdldhblhbbgloaa.err
  rw [hr, h.na, el, h.no]
  by_cases hin : 8 ≤ o.kind ∧ o.kind ≤ 14
  · rw [hf hin]
    by_cases h9 : o.kind = 9
    · by_cases hb : (o.c < 0 ∨ (s.locs.length : Int) ≤ o.c) ∨ (o.b < 0 ∨ (s.locs.length : Int) ≤ o.b)
      · simp [h9, hb]
      · have hi : o.c.toNat < s.locs.length := by omega
        have e1 := h.isC (is.lo _ hi).2.2
        simp [h9, h.lo_, e1]
    · rw [if_neg (by omega : ¬ o.kind = 1), if_neg (by omega : ¬ o.kind = 3), if_neg (by omega : ¬ o.kind = 6), if_neg h9, if_neg (by omega : ¬ o.kind = 1), if_neg (by omega : ¬ o.kind = 3), if_neg (by omega : ¬ o.kind = 6), if_neg h9]
  · by_cases h3 : o.kind = 3
    · by_cases hb : o.b < 0 ∨ (s.locs.length : Int) ≤ o.b
      · simp [h3, hb]
      · have hi : o.b.toNat < s.locs.length := by omega
        have e1 := h.isC (is.lo _ hi).2.2
        simp [h3, h.lo_, e1]
    · by_cases h6 : o.kind = 6
      · by_cases hb : o.a < 0 ∨ (s.locs.length : Int) ≤ o.a
        · simp [h6, hb]
        · have hi : o.a.toNat < s.locs.length := by omega
          have e1 := h.isC (is.lo _ hi).2.2
          simp [h6, h.lo_, e1]
      · simp only [if_neg h3, if_neg h6, if_neg (by omega : ¬ o.kind = 8), if_neg (by omega : ¬ o.kind = 9), if_neg (by omega : ¬ (o.kind = 10 ∨ o.kind = 13)), if_neg (by omega : ¬ (o.kind = 11 ∨ o.kind = 12 ∨ o.kind = 14))]
/-- The committed values of worlds that look alike. -/
theorem Sim.value (h : Sim s m t l) (is : Inv s m) {i : Nat} (hi : i < s.objs.length) : t.value l i = s.value m i := by
  obtain ⟨hat, hav, how, _, _, _⟩ := is.stand hi
  have e1 : t.at_ l i = s.at_ m i := by
    have := h.ob i hi
    unfold Ws.at_
    rw [show (ca l.cells (t.ob i)).2 = (ca m.cells (s.ob i)).2 from this]
  unfold Ws.value Ws.now
  rw [e1, h.lo_, h.isC how, h.vl_]
theorem Sim.com (h : Sim s m t l) (is : Inv s m) : t.com l = s.com m := by
  unfold Ws.com
  rw [h.no]
  apply List.map_congr_left
  intro i hi
  exact h.value is (by simpa using hi)
theorem Sim.begin (h : Sim s m t l) (a b c d : Int) : Sim s (m.begin a b) t (l.begin c d) := ⟨h.no, h.na, h.lo, h.vl, h.ob, h.st, h.fl⟩
end
section
variable {s s' t t' : Ws} {m m' l l' : Mm} {o : Oq} {e n e2 n2 : Int} {d d2 : Bool}
/-- Each step of worlds that look alike answers alike, and they look alike behind it. -/
theorem Sim.step (h : Sim s m t l) (is : Inv s m) (it : Inv t l) (hf : 8 ≤ o.kind ∧ o.kind ≤ 14 → l.free = m.free) (hr : t.roomA l = s.roomA m) (hd : Do s m o s' m' e d n) (he : Do t l o t' l' e2 d2 n2) : e2 = e ∧ d2 = d ∧ n2 = n ∧ Sim s' m' t' l' := by
  have ee : e2 = e := by rw [hd.err, he.err, h.err is hf hr]
  obtain ⟨κ, k1, k2⟩ := is.kap
  obtain ⟨μ, u1, u2⟩ := it.kap
  have el : t.locs.length = s.locs.length := by rw [h.lo]
  have ev : t.vals.length = s.vals.length := by rw [h.vl]
  cases hd with
  | idle hk =>
    cases he with
    | idle _ => exact ⟨rfl, rfl, rfl, h⟩
    | no _ _ hk2 _ _ => exact absurd hk2 hk
    | att hk2 _ => exact absurd (by omega) hk
    | mk hk2 _ _ _ _ _ _ _ _ _ => exact absurd (by omega) hk
    | put hk2 _ _ _ _ _ => exact absurd (by omega) hk
    | load hk2 _ _ _ _ => exact absurd (by omega) hk
    | acq hk2 _ _ _ _ _ _ _ _ _ _ _ _ => exact absurd (by omega) hk
    | stat hk2 _ _ _ _ => exact absurd (by omega) hk
    | fin _ hk2 _ _ _ _ _ => exact absurd (by omega) hk
    | flag hk2 _ _ _ _ => exact absurd (by omega) hk
    | mark hk2 _ _ _ _ _ _ _ _ => exact absurd (by omega) hk
  | no _ hn hk _ _ =>
    cases he with
    | idle hk2 => exact absurd hk hk2
    | no _ _ _ _ _ => exact ⟨ee, rfl, rfl, h⟩
    | _ => exact absurd ee.symm hn
  | att hk hr1 =>
    cases he with
    | idle hk2 => exact absurd (by omega) hk2
    | no _ hn _ _ _ => exact absurd ee hn
    | att _ hr2 =>
      refine ⟨rfl, rfl, by rw [h.na], ?_⟩
      have ea : ∀ i, (s.beg o.a o.b o.c m.cells.length).att i = if i < s.atts.length then s.att i else if i = s.atts.length then ⟨o.a, o.b, o.c, m.cells.length, m.cells.length + 1⟩ else at0 := fun i => att_app
      have eb : ∀ i, (t.beg o.a o.b o.c l.cells.length).att i = if i < t.atts.length then t.att i else if i = t.atts.length then ⟨o.a, o.b, o.c, l.cells.length, l.cells.length + 1⟩ else at0 := fun i => att_app
      have hm : ∀ c, c < m.cells.length → ((m.make 1).make 0).val c = m.val c := fun c hc => by rw [Mm.val_make, Mm.val_make, if_neg (by rw [Mm.len_make]; omega), if_neg (by omega)]
      have hl : ∀ c, c < l.cells.length → ((l.make 1).make 0).val c = l.val c := fun c hc => by rw [Mm.val_make, Mm.val_make, if_neg (by rw [Mm.len_make]; omega), if_neg (by omega)]
      have new0 : ∀ (m : Mm), ((m.make 1).make 0).val m.cells.length = 1 ∧ ((m.make 1).make 0).val (m.cells.length + 1) = 0 := fun m => ⟨by rw [Mm.val_make, Mm.val_make, if_neg (by rw [Mm.len_make]; omega), if_pos rfl], by rw [Mm.val_make, if_pos (by rw [Mm.len_make])]⟩
      refine ⟨h.no, by simp [Ws.beg, h.na], h.lo, h.vl, fun i hi => ?_, fun i hi => ?_, fun i hi => ?_⟩
      · show ((l.make 1).make 0).val (t.ob i) = ((m.make 1).make 0).val (s.ob i)
        rw [hl _ (it.co i (by rw [h.no]; exact hi)), hm _ (is.co i hi)]; exact h.ob i hi
      · have li : i < s.atts.length + 1 := by simpa [Ws.beg] using hi
        rw [ea, eb, h.na]
        by_cases q : i < s.atts.length
        · rw [if_pos q, if_pos q, hl _ (it.ca_ i (by rw [h.na]; exact q)).1, hm _ (is.ca_ i q).1]; exact h.st i q
        · rw [if_neg q, if_neg q, if_pos (by omega), if_pos (by omega)]; rw [(new0 l).1, (new0 m).1]
      · have li : i < s.atts.length + 1 := by simpa [Ws.beg] using hi
        rw [ea, eb, h.na]
        by_cases q : i < s.atts.length
        · rw [if_pos q, if_pos q, hl _ (it.ca_ i (by rw [h.na]; exact q)).2, hm _ (is.ca_ i q).2]; exact h.fl i q
        · rw [if_neg q, if_neg q, if_pos (by omega), if_pos (by omega)]; rw [(new0 l).2, (new0 m).2]
    | mk hk2 _ _ _ _ _ _ _ _ _ => exact absurd hk (by omega)
    | put hk2 _ _ _ _ _ => exact absurd hk (by omega)
    | load hk2 _ _ _ _ => exact absurd hk (by omega)
    | acq hk2 _ _ _ _ _ _ _ _ _ _ _ _ => exact absurd hk (by omega)
    | stat hk2 _ _ _ _ => exact absurd hk (by omega)
    | fin _ hk2 _ _ _ _ _ => exact absurd hk (by omega)
    | flag hk2 _ _ _ _ => exact absurd hk (by omega)
    | mark hk2 _ _ _ _ _ _ _ _ => exact absurd hk (by omega)
  | mk hk x y ex ey _ hx hy _ _ =>
    cases he with
    | idle hk2 => exact absurd (by omega) hk2
    | no _ hn _ _ _ => exact absurd ee hn
    | mk _ x2 y2 ex2 ey2 _ _ _ _ _ =>
      obtain rfl : x2 = x := by omega
      obtain rfl : y2 = y := by omega
      refine ⟨rfl, rfl, by rw [el], h.no, h.na, ?_, ?_, h.ob, h.st, h.fl⟩
      · simp [Ws.lay, h.lo, ev]
      · simp [Ws.lay, h.vl, h.vl_]
    | att hk2 _ => exact absurd hk (by omega)
    | put hk2 _ _ _ _ _ => exact absurd hk (by omega)
    | load hk2 _ _ _ _ => exact absurd hk (by omega)
    | acq hk2 _ _ _ _ _ _ _ _ _ _ _ _ => exact absurd hk (by omega)
    | stat hk2 _ _ _ _ => exact absurd hk (by omega)
    | fin _ hk2 _ _ _ _ _ => exact absurd hk (by omega)
    | flag hk2 _ _ _ _ => exact absurd hk (by omega)
    | mark hk2 _ _ _ _ _ _ _ _ => exact absurd hk (by omega)
  | put hk x ex _ _ _ =>
    cases he with
    | idle hk2 => exact absurd (by omega) hk2
    | no _ hn _ _ _ => exact absurd ee hn
    | put _ x2 ex2 _ _ _ =>
      obtain rfl : x2 = x := by omega
      exact ⟨rfl, rfl, rfl, h.no, h.na, h.lo, by simp [Ws.put, h.vl], h.ob, h.st, h.fl⟩
    | att hk2 _ => exact absurd hk (by omega)
    | mk hk2 _ _ _ _ _ _ _ _ _ => exact absurd hk (by omega)
    | load hk2 _ _ _ _ => exact absurd hk (by omega)
    | acq hk2 _ _ _ _ _ _ _ _ _ _ _ _ => exact absurd hk (by omega)
    | stat hk2 _ _ _ _ => exact absurd hk (by omega)
    | fin _ hk2 _ _ _ _ _ => exact absurd hk (by omega)
    | flag hk2 _ _ _ _ => exact absurd hk (by omega)
    | mark hk2 _ _ _ _ _ _ _ _ => exact absurd hk (by omega)
  | load hk x ex hx _ =>
    cases he with
    | idle hk2 => exact absurd (by omega) hk2
    | no _ hn _ _ _ => exact absurd ee hn
    | load _ x2 ex2 _ _ =>
      obtain rfl : x2 = x := by omega
      exact ⟨rfl, rfl, h.ob _ hx, h.no, h.na, h.lo, h.vl, fun i hi => by rw [m.val_load, l.val_load]; exact h.ob i hi, fun i hi => by rw [m.val_load, l.val_load]; exact h.st i hi, fun i hi => by rw [m.val_load, l.val_load]; exact h.fl i hi⟩
    | att hk2 _ => exact absurd hk (by omega)
    | mk hk2 _ _ _ _ _ _ _ _ _ => exact absurd hk (by omega)
    | put hk2 _ _ _ _ _ => exact absurd hk (by omega)
    | acq hk2 _ _ _ _ _ _ _ _ _ _ _ _ => exact absurd hk (by omega)
    | stat hk2 _ _ _ _ => exact absurd hk (by omega)
    | fin _ hk2 _ _ _ _ _ => exact absurd hk (by omega)
    | flag hk2 _ _ _ _ => exact absurd hk (by omega)
    | mark hk2 _ _ _ _ _ _ _ _ => exact absurd hk (by omega)
  | stat hk x ex hx _ =>
    cases he with
    | idle hk2 => exact absurd (by omega) hk2
    | no _ hn _ _ _ => exact absurd ee hn
    | stat _ x2 ex2 _ _ =>
      obtain rfl : x2 = x := by omega
      exact ⟨rfl, rfl, h.st _ hx, h.no, h.na, h.lo, h.vl, fun i hi => by rw [m.val_load, l.val_load]; exact h.ob i hi, fun i hi => by rw [m.val_load, l.val_load]; exact h.st i hi, fun i hi => by rw [m.val_load, l.val_load]; exact h.fl i hi⟩
    | att hk2 _ => exact absurd hk (by omega)
    | mk hk2 _ _ _ _ _ _ _ _ _ => exact absurd hk (by omega)
    | put hk2 _ _ _ _ _ => exact absurd hk (by omega)
    | acq hk2 _ _ _ _ _ _ _ _ _ _ _ _ => exact absurd hk (by omega)
    | load hk2 _ _ _ _ => exact absurd hk (by omega)
    | fin _ hk2 _ _ _ _ _ => exact absurd hk (by omega)
    | flag hk2 _ _ _ _ => exact absurd hk (by omega)
    | mark hk2 _ _ _ _ _ _ _ _ => exact absurd hk (by omega)
  | flag hk x ex hx _ =>
    cases he with
    | idle hk2 => exact absurd (by omega) hk2
    | no _ hn _ _ _ => exact absurd ee hn
    | flag _ x2 ex2 _ _ =>
      obtain rfl : x2 = x := by omega
      exact ⟨rfl, by rw [h.fl _ hx], rfl, h.no, h.na, h.lo, h.vl, fun i hi => by rw [m.val_load, l.val_load]; exact h.ob i hi, fun i hi => by rw [m.val_load, l.val_load]; exact h.st i hi, fun i hi => by rw [m.val_load, l.val_load]; exact h.fl i hi⟩
    | att hk2 _ => exact absurd hk (by omega)
    | mk hk2 _ _ _ _ _ _ _ _ _ => exact absurd hk (by omega)
    | put hk2 _ _ _ _ _ => exact absurd hk (by omega)
    | acq hk2 _ _ _ _ _ _ _ _ _ _ _ _ => exact absurd hk (by omega)
    | load hk2 _ _ _ _ => exact absurd hk (by omega)
    | fin _ hk2 _ _ _ _ _ => exact absurd hk (by omega)
    | stat hk2 _ _ _ _ => exact absurd hk (by omega)
    | mark hk2 _ _ _ _ _ _ _ _ => exact absurd hk (by omega)
  | acq hk x y z ex ey ez hx hy hz hU hC _ =>
    cases he with
    | idle hk2 => exact absurd (by omega) hk2
    | no _ hn _ _ _ => exact absurd ee hn
    | acq _ x2 y2 z2 ex2 ey2 ez2 hx2 _ _ _ _ _ =>
      obtain rfl : x2 = x := by omega
      obtain rfl : y2 = y := by omega
      obtain rfl : z2 = z := by omega
      have e1 := h.ob _ hx
      refine ⟨rfl, by rw [e1], rfl, h.no, h.na, ?_, h.vl, fun i hi => ?_, fun i hi => ?_, fun i hi => ?_⟩
      · simp only [Ws.use]; rw [h.lo, h.lo_, e1]
      · show (l.swap (t.ob x2) (y2 : Int) (z2 : Int)).val (t.ob i) = (m.swap (s.ob x2) (y2 : Int) (z2 : Int)).val (s.ob i)
        have hi' : i < s.objs.length := hi
        rw [l.val_swap, m.val_swap, e1, h.ob i hi']
        by_cases q : i = x2
        · subst q
          have a1 := it.co i hx2
          have a2 := is.co i hx
          simp [a1, a2]
        · have b1 : ¬ t.ob i = t.ob x2 := fun e => q (by have := u2 i (by rw [h.no]; exact hi'); rw [e, u2 x2 hx2] at this; omega)
          have b2 : ¬ s.ob i = s.ob x2 := fun e => q (by have := k2 i hi'; rw [e, k2 x2 hx] at this; omega)
          simp [b1, b2]
      · have hi' : i < s.atts.length := hi
        show (l.swap (t.ob x2) (y2 : Int) (z2 : Int)).val (t.att i).status = (m.swap (s.ob x2) (y2 : Int) (z2 : Int)).val (s.att i).status
        have b1 : ¬ (t.att i).status = t.ob x2 := fun e => by have := (u1 i (by rw [h.na]; exact hi')).1; rw [e, u2 x2 hx2] at this; omega
        have b2 : ¬ (s.att i).status = s.ob x2 := fun e => by have := (k1 i hi').1; rw [e, k2 x2 hx] at this; omega
        rw [l.val_swap, m.val_swap, if_neg (fun q => b1 q.1), if_neg (fun q => b2 q.1)]; exact h.st i hi'
      · have hi' : i < s.atts.length := hi
        show (l.swap (t.ob x2) (y2 : Int) (z2 : Int)).val (t.att i).flag = (m.swap (s.ob x2) (y2 : Int) (z2 : Int)).val (s.att i).flag
        have b1 : ¬ (t.att i).flag = t.ob x2 := fun e => by have := (u1 i (by rw [h.na]; exact hi')).2; rw [e, u2 x2 hx2] at this; omega
        have b2 : ¬ (s.att i).flag = s.ob x2 := fun e => by have := (k1 i hi').2; rw [e, k2 x2 hx] at this; omega
        rw [l.val_swap, m.val_swap, if_neg (fun q => b1 q.1), if_neg (fun q => b2 q.1)]; exact h.fl i hi'
    | att hk2 _ => exact absurd hk (by omega)
    | mk hk2 _ _ _ _ _ _ _ _ _ => exact absurd hk (by omega)
    | put hk2 _ _ _ _ _ => exact absurd hk (by omega)
    | load hk2 _ _ _ _ => exact absurd hk (by omega)
    | stat hk2 _ _ _ _ => exact absurd hk (by omega)
    | fin _ hk2 _ _ _ _ _ => exact absurd hk (by omega)
    | flag hk2 _ _ _ _ => exact absurd hk (by omega)
    | mark hk2 _ _ _ _ _ _ _ _ => exact absurd hk (by omega)
  | fin sv hk x ex _ hx _ =>
    cases he with
    | idle hk2 => exact absurd (by omega) hk2
    | no _ hn _ _ _ => exact absurd ee hn
    | fin sv2 hk2 x2 ex2 _ hx2 _ =>
      obtain rfl : x2 = x := by omega
      obtain rfl : sv2 = sv := by omega
      have e1 := h.st _ hx
      refine ⟨rfl, by rw [e1], rfl, h.no, h.na, h.lo, h.vl, fun i hi => ?_, fun i hi => ?_, fun i hi => ?_⟩
      · have b1 : ¬ t.ob i = (t.att x2).status := fun e => by have := u2 i (by rw [h.no]; exact hi); rw [e, (u1 x2 hx2).1] at this; omega
        have b2 : ¬ s.ob i = (s.att x2).status := fun e => by have := k2 i hi; rw [e, (k1 x2 hx).1] at this; omega
        rw [l.val_swap, m.val_swap, if_neg (fun q => b1 q.1), if_neg (fun q => b2 q.1)]; exact h.ob i hi
      · rw [l.val_swap, m.val_swap, e1, h.st i hi]
        by_cases q : i = x2
        · subst q
          have a1 := (it.ca_ i hx2).1
          have a2 := (is.ca_ i hx).1
          simp [a1, a2]
        · have b1 : ¬ (t.att i).status = (t.att x2).status := fun e => q (by have := (u1 i (by rw [h.na]; exact hi)).1; rw [e, (u1 x2 hx2).1] at this; omega)
          have b2 : ¬ (s.att i).status = (s.att x2).status := fun e => q (by have := (k1 i hi).1; rw [e, (k1 x2 hx).1] at this; omega)
          simp [b1, b2]
      · have b1 : ¬ (t.att i).flag = (t.att x2).status := fun e => by have := (u1 i (by rw [h.na]; exact hi)).2; rw [e, (u1 x2 hx2).1] at this; omega
        have b2 : ¬ (s.att i).flag = (s.att x2).status := fun e => by have := (k1 i hi).2; rw [e, (k1 x2 hx).1] at this; omega
        rw [l.val_swap, m.val_swap, if_neg (fun q => b1 q.1), if_neg (fun q => b2 q.1)]; exact h.fl i hi
    | att hk2 _ => exact absurd hk (by omega)
    | mk hk2 _ _ _ _ _ _ _ _ _ => exact absurd hk (by omega)
    | put hk2 _ _ _ _ _ => exact absurd hk (by omega)
    | load hk2 _ _ _ _ => exact absurd hk (by omega)
    | stat hk2 _ _ _ _ => exact absurd hk (by omega)
    | acq hk2 _ _ _ _ _ _ _ _ _ _ _ _ => exact absurd hk (by omega)
    | flag hk2 _ _ _ _ => exact absurd hk (by omega)
    | mark hk2 _ _ _ _ _ _ _ _ => exact absurd hk (by omega)
  | mark hk x p q ex _ hx _ hpq =>
    cases he with
    | idle hk2 => exact absurd (by omega) hk2
    | no _ hn _ _ _ => exact absurd ee hn
    | mark hk2 x2 p2 q2 ex2 _ hx2 _ hpq2 =>
      obtain rfl : x2 = x := by omega
      obtain ⟨rfl, rfl⟩ : p2 = p ∧ q2 = q := by
        rcases hpq with ⟨a, b, c⟩ | ⟨a, b, c⟩ <;> rcases hpq2 with ⟨a', b', c'⟩ | ⟨a', b', c'⟩
        · exact ⟨by omega, by omega⟩
        · rw [a] at a'; cases a'
        · rw [a] at a'; cases a'
        · exact ⟨by omega, by omega⟩
      have e1 := h.fl _ hx
      refine ⟨rfl, by rw [e1], rfl, h.no, h.na, h.lo, h.vl, fun i hi => ?_, fun i hi => ?_, fun i hi => ?_⟩
      · have b1 : ¬ t.ob i = (t.att x2).flag := fun e => by have := u2 i (by rw [h.no]; exact hi); rw [e, (u1 x2 hx2).2] at this; omega
        have b2 : ¬ s.ob i = (s.att x2).flag := fun e => by have := k2 i hi; rw [e, (k1 x2 hx).2] at this; omega
        rw [l.val_swap, m.val_swap, if_neg (fun q => b1 q.1), if_neg (fun q => b2 q.1)]; exact h.ob i hi
      · have b1 : ¬ (t.att i).status = (t.att x2).flag := fun e => by have := (u1 i (by rw [h.na]; exact hi)).1; rw [e, (u1 x2 hx2).2] at this; omega
        have b2 : ¬ (s.att i).status = (s.att x2).flag := fun e => by have := (k1 i hi).1; rw [e, (k1 x2 hx).2] at this; omega
        rw [l.val_swap, m.val_swap, if_neg (fun q => b1 q.1), if_neg (fun q => b2 q.1)]; exact h.st i hi
      · rw [l.val_swap, m.val_swap, e1, h.fl i hi]
        by_cases q : i = x2
        · subst q
          have a1 := (it.ca_ i hx2).2
          have a2 := (is.ca_ i hx).2
          simp [a1, a2]
        · have b1 : ¬ (t.att i).flag = (t.att x2).flag := fun e => q (by have := (u1 i (by rw [h.na]; exact hi)).2; rw [e, (u1 x2 hx2).2] at this; omega)
          have b2 : ¬ (s.att i).flag = (s.att x2).flag := fun e => q (by have := (k1 i hi).2; rw [e, (k1 x2 hx).2] at this; omega)
          simp [b1, b2]
    | att hk2 _ => exact absurd hk (by omega)
    | mk hk2 _ _ _ _ _ _ _ _ _ => exact absurd hk (by omega)
    | put hk2 _ _ _ _ _ => exact absurd hk (by omega)
    | load hk2 _ _ _ _ => exact absurd hk (by omega)
    | stat hk2 _ _ _ _ => exact absurd hk (by omega)
    | acq hk2 _ _ _ _ _ _ _ _ _ _ _ _ => exact absurd hk (by omega)
    | flag hk2 _ _ _ _ => exact absurd hk (by omega)
    | fin _ hk2 _ _ _ _ _ => exact absurd hk (by omega)
end
end Go.Proofs.Ytdldhblhbbgloaa
