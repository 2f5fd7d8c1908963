import Derived.Test.YtdeiochjkbogpaaLocGA
namespace Go.Proofs.Ytdeiochjkbogpaa
open Go.RowKit
section
variable {W : World} {base e g n cap : Nat} {L : List Vl} {j i : Nat} {a b : Vl} {u : Value}
theorem stw1 (own : W.ownsRow base e 3 (.slice (some ⟨g, 0, none⟩) n cap) n (fl vc3 (L.set j a))) (hj : j < L.length) (hi : i < 3) (hb : vc3 b = (vc3 a).set i u) :
    (W.setCell ⟨g, j * 3 + i, none⟩ u).ownsRow base e 3 (.slice (some ⟨g, 0, none⟩) n cap) n (fl vc3 (L.set j b)) := by
  have h := (own.stored (j * 3 + i) u).1
  have e1 := fl_set vc3_len (L.set j a) j i a b u (by rw [List.getElem?_set, if_pos rfl, if_pos hj]) hi hb
  rw [List.set_set] at e1
  rw [e1]
  exact h
/-- A value is written. -/
def sev3 (W : World) (g o : Nat) (v : Vl) : World := ((W.setCell ⟨g, o, none⟩ (.int .i64 v.num)).setCell ⟨g, o + 1, none⟩ (.int .i64 v.next)).setCell ⟨g, o + 2, none⟩ (.bool v.dead)
theorem stw3 (own : W.ownsRow base e 3 (.slice (some ⟨g, 0, none⟩) n cap) n (fl vc3 L)) (hj : j < L.length) (v : Vl) :
    (sev3 W g (j * 3) v).ownsRow base e 3 (.slice (some ⟨g, 0, none⟩) n cap) n (fl vc3 (L.set j v)) ∧ Keeps (fun k => k = g) W (sev3 W g (j * 3) v) := by
  have e0 : L.set j (L.getD j vl0) = L := by
    apply List.ext_getElem?
    intro i
    rw [List.getElem?_set]
    by_cases h : j = i
    · subst h; rw [if_pos rfl, if_pos hj, getD_get hj]
    · rw [if_neg h]
  rw [← e0] at own
  generalize L.getD j vl0 = x at own
  have h0 := stw1 (i := 0) (b := { x with num := v.num }) own hj (by omega) rfl
  have h1 := stw1 (i := 1) (b := { x with num := v.num, next := v.next }) h0 hj (by omega) rfl
  have h2 := stw1 (i := 2) (b := v) h1 hj (by omega) rfl
  exact ⟨h2, ((keeps_set W g (j * 3) _).trans (keeps_set _ g (j * 3 + 1) _)).trans (keeps_set _ g (j * 3 + 2) _)⟩
end
section
variable {Wb W W' : World} {Q : Nat → Prop} {fb rb wb mb n k : Nat} {s : Ws} {m : Mm} {c : Nat → Cl} {want : List Vl} {was : List (List Vl)} {mk : Int} {ρ ρ' : Nat → Nat} {fv : Nat → Value} {ws : List Value}
/-- What is wanted, as it lies. -/
theorem GX.own37 (h : GX Wb Q fb rb wb mb s m n c want was mk W) (hw : 0 < want.length) : ∃ gw cap, W.cell? ⟨fb, 37, none⟩ = some (.slice (some ⟨gw, 0, none⟩) want.length cap) ∧ W.ownsRow 0 52 3 (.slice (some ⟨gw, 0, none⟩) want.length cap) want.length (Go.Proofs.Ytdeiochjkbogpaa.fl vc3 want) ∧ gw ≠ fb ∧ ¬ Q gw ∧ Wb.heap.size ≤ gw ∧ ∀ k v, k < 4 → W.cell? ⟨fb, 1 + k * 9 + 7, none⟩ = some v ∨ W.cell? ⟨fb, 1 + k * 9 + 8, none⟩ = some v → v.ownBlock ≠ some gw := by
  obtain ⟨ρ, fv, ws, R, F, q, kk, z⟩ := h
  obtain ⟨a, cap, e, hg⟩ := owns_slice F.wo
  obtain ⟨gw, ea, eb⟩ := hg hw
  have rw_ := F.wr gw eb
  subst ea
  refine ⟨gw, cap, by rw [← e]; exact F.ff.cs _ (by omega), by rw [← e]; exact F.wo, fun e' => ?_, fun e' => ?_, ?_, fun k v hk hc hb => ?_⟩
  · rw [e', F.ff.rf] at rw_; omega
  · have := (q gw e').2.2; omega
  · rcases Nat.lt_or_ge gw Wb.heap.size with e' | e'
    · have := z gw e'; omega
    · exact e'
  · rcases hc with hc | hc
    · obtain rfl : v = fv (1 + k * 9 + 7) := Option.some.inj (hc.symm.trans (F.ff.cs _ (by omega)))
      have := F.hr k gw hk hb
      omega
    · obtain rfl : v = fv (1 + k * 9 + 8) := Option.some.inj (hc.symm.trans (F.ff.cs _ (by omega)))
      have := F.pr k gw hk hb
      omega
/-- What is wanted of an object is written. -/
theorem GX.sev37 (h : GX Wb Q fb rb wb mb s m n c want was mk W) {gw cap : Nat} (hc : W.cell? ⟨fb, 37, none⟩ = some (.slice (some ⟨gw, 0, none⟩) want.length cap)) {j : Nat} (hj : j < want.length) (v : Vl) : GX Wb Q fb rb wb mb s m n c (want.set j v) was mk (sev3 W gw (j * 3) v) ∧ Keeps (fun i => i = gw) W (sev3 W gw (j * 3) v) := by
  obtain ⟨ρ, fv, ws, R, F, q, kk, z⟩ := h
  have e : fv 37 = .slice (some ⟨gw, 0, none⟩) want.length cap := Option.some.inj ((F.ff.cs 37 (by omega)).symm.trans hc)
  have own := F.wo
  rw [e] at own
  obtain ⟨o', K⟩ := stw3 own hj v
  have rg : ρ gw = 17 := F.wr gw (by rw [e]; rfl)
  have x : Ext (fun r => r = 17) W (sev3 W gw (j * 3) v) ρ ρ := ⟨K.mono (fun i _ e => by rw [e]; exact rg), fun _ _ => rfl, fun i hi => .inr (R.st.bnd i hi)⟩
  refine ⟨⟨ρ, fv, ws, R.beside (x.mono (fun _ e => by omega)) (fun i hi => R.st.bnd i (Nat.le_trans K.size hi)), F.re37 x (by rw [e, List.length_set]; exact o'), fun i hi => ⟨Nat.lt_of_lt_of_le (q i hi).1 K.size, (q i hi).2⟩, kk.trans' K (fun _ _ e => e) (fun i hi e => ?_), z⟩, K⟩
  have := z i hi
  rw [e, rg] at this
  omega
/-- One of its values, as it lies. -/
theorem GX.cell37 (h : GX Wb Q fb rb wb mb s m n c want was mk W) {gw cap len : Nat} (hc : W.cell? ⟨fb, 37, none⟩ = some (.slice (some ⟨gw, 0, none⟩) len cap)) {j : Nat} (hj : j < want.length) : len = want.length ∧ (∃ v : Vl, W.cell? ⟨gw, j * 3, none⟩ = some (.int .i64 v.num) ∧ W.cell? ⟨gw, j * 3 + 1, none⟩ = some (.int .i64 v.next) ∧ W.cell? ⟨gw, j * 3 + 2, none⟩ = some (.bool v.dead)) ∧ (∀ o, W.frozen? ⟨gw, o, none⟩ = false) := by
  obtain ⟨ρ, fv, ws, R, F, q, kk, z⟩ := h
  have e : fv 37 = .slice (some ⟨gw, 0, none⟩) len cap := Option.some.inj ((F.ff.cs 37 (by omega)).symm.trans hc)
  obtain ⟨a, cp, e', _⟩ := owns_slice F.wo
  have own := F.wo
  rw [e] at e' own
  cases e'
  have hg : ∀ i, i < 3 → (Go.Proofs.Ytdeiochjkbogpaa.fl vc3 want)[j * 3 + i]? = (vc3 (want.getD j vl0))[i]? := fun i hi => by
    rw [fl_get vc3_len want j i hi, getD_get (d := vl0) hj]
    rfl
  exact ⟨rfl, ⟨want.getD j vl0, owns_cell own rfl (j := j * 3) (hg 0 (by omega)), owns_cell own rfl (hg 1 (by omega)), owns_cell own rfl (hg 2 (by omega))⟩, fun o => own.frozenAt o⟩
theorem fbeg_cl {A k' i : Nat} (hi : i < 9) : fbeg fv k A (1 + k' * 9 + i) = if k' = k ∧ i = 0 then .int .i64 0 else if k' = k ∧ i = 8 then .slice none 0 0 else if k' = k ∧ i = 7 then .slice none 0 0 else if k' = k ∧ i = 1 then .int .i64 (A : Int) else fv (1 + k' * 9 + i) := by
  unfold fbeg fset
  have e : ∀ j, j < 9 → ((1 + k' * 9 + i = 1 + k * 9 + j) ↔ (k' = k ∧ i = j)) := fun j hj => by omega
  have e0 : (1 + k' * 9 + i = 1 + k * 9) ↔ (k' = k ∧ i = 0) := by omega
  simp only [e0, e 1 (by omega), e 7 (by omega), e 8 (by omega)]
theorem fbeg_far {A i : Nat} (hk : k < 4) (hi : i = 0 ∨ 37 ≤ i) : fbeg fv k A i = fv i := by
  unfold fbeg
  rw [fset_other (by omega), fset_other (by omega), fset_other (by omega), fset_other (by omega)]
/-- A client has begun anew. -/
theorem FL.anew (h : FL W ρ fb rb fv c want was ws mk) (hk : k < 4) {A : Nat} (x : Ext (fun r => Sq 1 2 7 r ∨ r = 8) W W' ρ ρ') (hff : FF W' ρ' fb (fbeg fv k A)) : FL W' ρ' fb rb (fbeg fv k A) (upd c k { c k with at_ := 0, att := A, held := [], put := [] }) want was ws mk := by
  have hS : ∀ r, 9 ≤ r → r ≤ 19 → ¬ (Sq 1 2 7 r ∨ r = 8) := fun r h1 h2 e => e.elim (fun e => by rcases e with (e | e) | e <;> omega) (fun e => by omega)
  have far : ∀ {i : Nat}, 37 ≤ i → fbeg fv k A i = fv i := fun hi => fbeg_far hk (.inr hi)
  refine ⟨hff, (fbeg_far hk (.inl rfl)).trans h.f0, fun k' hk' => ?_, fun k' hk' => ?_, fun k' hk' => ?_, fun k' hk' => ?_, fun k' hk' => ?_, fun k' hk' => ?_, fun k' hk' => ?_, fun k' hk' => ?_, fun k' g hk' hg => ?_, fun k' hk' => ?_, fun k' g hk' hg => ?_, ?_, fun g hg => ?_, ?_, fun g hg => ?_, fun i l v hl hv => own_ext (h.si i l v hl hv) (fun g => h.sj i v g hv) x (hS _ (by omega) (by omega)), fun i v g hv hg => ?_, (far (by omega)).trans h.mk_, (far (by omega)).trans h.fd⟩
  · have e := fbeg_cl (fv := fv) (k := k) (A := A) (k' := k') (i := 0) (by omega)
    refine e.trans ?_
    by_cases q : k' = k
    · rw [if_pos ⟨q, rfl⟩, q, upd_self]; rfl
    · rw [if_neg (fun w => q w.1), if_neg (fun w => q w.1), if_neg (fun w => q w.1), if_neg (fun w => q w.1), upd_other q]; exact h.a0 k' hk'
  · have e := fbeg_cl (fv := fv) (k := k) (A := A) (k' := k') (i := 1) (by omega)
    refine e.trans ?_
    by_cases q : k' = k
    · rw [if_neg (fun w => absurd w.2 (by omega)), if_neg (fun w => absurd w.2 (by omega)), if_neg (fun w => absurd w.2 (by omega)), if_pos ⟨q, rfl⟩, q, upd_self]
    · rw [if_neg (fun w => q w.1), if_neg (fun w => q w.1), if_neg (fun w => q w.1), if_neg (fun w => q w.1), upd_other q]; exact h.a1 k' hk'
  · have e := fbeg_cl (fv := fv) (k := k) (A := A) (k' := k') (i := 2) (by omega)
    rw [if_neg (fun w => absurd w.2 (by omega)), if_neg (fun w => absurd w.2 (by omega)), if_neg (fun w => absurd w.2 (by omega)), if_neg (fun w => absurd w.2 (by omega))] at e
    refine e.trans ((h.a2 k' hk').trans ?_)
    by_cases q : k' = k
    · rw [q, upd_self]
    · rw [upd_other q]
  · have e := fbeg_cl (fv := fv) (k := k) (A := A) (k' := k') (i := 3) (by omega)
    rw [if_neg (fun w => absurd w.2 (by omega)), if_neg (fun w => absurd w.2 (by omega)), if_neg (fun w => absurd w.2 (by omega)), if_neg (fun w => absurd w.2 (by omega))] at e
    refine e.trans ((h.a3 k' hk').trans ?_)
    by_cases q : k' = k
    · rw [q, upd_self]
    · rw [upd_other q]
  · have e := fbeg_cl (fv := fv) (k := k) (A := A) (k' := k') (i := 4) (by omega)
    rw [if_neg (fun w => absurd w.2 (by omega)), if_neg (fun w => absurd w.2 (by omega)), if_neg (fun w => absurd w.2 (by omega)), if_neg (fun w => absurd w.2 (by omega))] at e
    refine e.trans ((h.a4 k' hk').trans ?_)
    by_cases q : k' = k
    · rw [q, upd_self]
    · rw [upd_other q]
  · have e := fbeg_cl (fv := fv) (k := k) (A := A) (k' := k') (i := 5) (by omega)
    rw [if_neg (fun w => absurd w.2 (by omega)), if_neg (fun w => absurd w.2 (by omega)), if_neg (fun w => absurd w.2 (by omega)), if_neg (fun w => absurd w.2 (by omega))] at e
    refine e.trans ((h.a5 k' hk').trans ?_)
    by_cases q : k' = k
    · rw [q, upd_self]
    · rw [upd_other q]
  · have e := fbeg_cl (fv := fv) (k := k) (A := A) (k' := k') (i := 6) (by omega)
    rw [if_neg (fun w => absurd w.2 (by omega)), if_neg (fun w => absurd w.2 (by omega)), if_neg (fun w => absurd w.2 (by omega)), if_neg (fun w => absurd w.2 (by omega))] at e
    refine e.trans ((h.a6 k' hk').trans ?_)
    by_cases q : k' = k
    · rw [q, upd_self]
    · rw [upd_other q]
  · have e := fbeg_cl (fv := fv) (k := k) (A := A) (k' := k') (i := 7) (by omega)
    by_cases q : k' = k
    · rw [if_neg (fun w => absurd w.2 (by omega)), if_neg (fun w => absurd w.2 (by omega)), if_pos ⟨q, rfl⟩] at e
      rw [e, q, upd_self]
      exact World.ownsRow_nil _ _ _ _
    · rw [if_neg (fun w => q w.1), if_neg (fun w => q w.1), if_neg (fun w => q w.1), if_neg (fun w => q w.1)] at e
      rw [e, upd_other q]
      exact own_ext (h.hh k' hk') (fun g => h.hr k' g hk') x (hS _ (by omega) (by omega))
  · have e := fbeg_cl (fv := fv) (k := k) (A := A) (k' := k') (i := 7) (by omega)
    by_cases q : k' = k
    · rw [if_neg (fun w => absurd w.2 (by omega)), if_neg (fun w => absurd w.2 (by omega)), if_pos ⟨q, rfl⟩] at e
      rw [e] at hg
      cases hg
    · rw [if_neg (fun w => q w.1), if_neg (fun w => q w.1), if_neg (fun w => q w.1), if_neg (fun w => q w.1)] at e
      rw [e] at hg
      exact role_ext (h.hh k' hk') (fun g => h.hr k' g hk') x g hg
  · have e := fbeg_cl (fv := fv) (k := k) (A := A) (k' := k') (i := 8) (by omega)
    by_cases q : k' = k
    · rw [if_neg (fun w => absurd w.2 (by omega)), if_pos ⟨q, rfl⟩] at e
      rw [e, q, upd_self]
      exact World.ownsRow_nil _ _ _ _
    · rw [if_neg (fun w => q w.1), if_neg (fun w => q w.1), if_neg (fun w => q w.1), if_neg (fun w => q w.1)] at e
      rw [e, upd_other q]
      exact own_ext (h.ph k' hk') (fun g => h.pr k' g hk') x (hS _ (by omega) (by omega))
  · have e := fbeg_cl (fv := fv) (k := k) (A := A) (k' := k') (i := 8) (by omega)
    by_cases q : k' = k
    · rw [if_neg (fun w => absurd w.2 (by omega)), if_pos ⟨q, rfl⟩] at e
      rw [e] at hg
      cases hg
    · rw [if_neg (fun w => q w.1), if_neg (fun w => q w.1), if_neg (fun w => q w.1), if_neg (fun w => q w.1)] at e
      rw [e] at hg
      exact role_ext (h.ph k' hk') (fun g => h.pr k' g hk') x g hg
  · rw [far (by omega)]; exact own_ext h.wo h.wr x (hS _ (by omega) (by omega))
  · rw [far (by omega)] at hg; exact role_ext h.wo h.wr x g hg
  · rw [far (by omega)]; exact own_ext h.so h.sr x (hS _ (by omega) (by omega))
  · rw [far (by omega)] at hg; exact role_ext h.so h.sr x g hg
  · have hil : i < was.length := by
      have h1 := h.so.1
      rw [Nat.mul_one] at h1
      rw [← h1]
      exact (List.getElem?_eq_some_iff.1 hv).1
    exact role_ext (h.si i _ v (List.getElem?_eq_getElem hil) hv) (fun g => h.sj i v g hv) x g hg
/-- A fresh attempt of client k. -/
theorem GX.fatt (h : GX Wb Q fb rb wb mb s m n c want was mk W) (hk : k < 4) (hn : n ≤ 2499999999999) (hr : s.roomA m = true) :
    Calls Try.prog 7 #[.pointer (some ⟨fb, 0, none⟩), .int .i64 (k : Int)] W fun e w' => e = .returned (.tuple #[]) ∧ GX Wb Q fb rb wb mb (s.beg (k : Int) (k : Int) (-1) m.cells.length) ((m.make 1).make 0) n (upd c k { c k with at_ := 0, att := s.atts.length, held := [], put := [] }) want was mk w' := by
  obtain ⟨ρ, fv, ws, R, F, q, kk, z⟩ := h
  refine (fattempt_ok hk R F.ff F.f0 hn hr).mono ?_
  rintro e w' ⟨rfl, ρ', R', F', x⟩
  have n0 : ¬ (Sq 1 2 7 0 ∨ (0 : Nat) = 8) := fun e => e.elim R.not0 (fun e => by omega)
  refine ⟨rfl, ⟨ρ', _, ws, R', F.anew hk x F', fun i hi => ⟨Nat.lt_of_lt_of_le (q i hi).1 x.keeps.size, (q i hi).2.1, (x.old i (q i hi).1).trans (q i hi).2.2⟩, kk.trans' x.keeps (fun _ _ e => e) (fun i hi e => n0 (by rw [z i hi] at e; exact e)), fun i hi => (x.old i (Nat.lt_of_lt_of_le hi kk.size)).trans (z i hi)⟩⟩
end
end Go.Proofs.Ytdeiochjkbogpaa
