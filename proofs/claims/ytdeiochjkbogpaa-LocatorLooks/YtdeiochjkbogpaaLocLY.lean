import Derived.Test.YtdeiochjkbogpaaLocLV
namespace Go.Proofs.Ytdeiochjkbogpaa
open Go.RowKit
section
variable {W W' W5 : World} {ρ ρ' : Nat → Nat} {fb rb wb mb n : Nat} {s : Ws} {m : Mm} {fv : Nat → Value} {c : Nat → Cl} {want : List Vl} {was : List (List Vl)} {ws : List Value} {mk : Int} {S : Nat → Prop}
/-- A list stands beside another one's turn. -/
theorem own_two {base e z n r : Nat} {v x : Value} {xs : List Value} {o : Nat} (h : W.ownsRow base e z v n xs) (hr : ∀ g, v.ownBlock = some g → ρ g = r) (hx : Ext S W W5 ρ ρ') (hS : ¬ S r) (h8 : r ≠ 8) (hf : ρ' fb = 8) : (W5.setCell ⟨fb, o, none⟩ x).ownsRow base e z v n xs :=
  (keeps_set W5 fb o x).owns (own_ext h hr hx hS) (fun g hg e => h8 (by rw [← role_ext h hr hx g hg, e]; exact hf))
/-- A client's list is written anew. -/
theorem FL.re7 (h : FL W ρ fb rb fv c want was ws mk) {k : Nat} (hk : k < 4) (x : Ext (fun r => r = 9 + k) W W5 ρ ρ') {v' : Value} {xs : List Nat} (own : W5.ownsRow 0 3 1 v' xs.length (nis xs)) (hg' : ∀ g, v'.ownBlock = some g → ρ' g = 9 + k) : FL (W5.setCell ⟨fb, 1 + k * 9 + 7, none⟩ v') ρ' fb rb (fset fv (1 + k * 9 + 7) v') (upd c k { c k with held := xs }) want was ws mk := by
  have hff : FF W5 ρ' fb fv := h.ff.ext x (by omega)
  have hf : ∀ {k' i : Nat}, i < 9 → fset fv (1 + k * 9 + 7) v' (1 + k' * 9 + i) = if k' = k ∧ i = 7 then v' else fv (1 + k' * 9 + i) := fun hi => fset_cl (j := 7) hi (by omega)
  have hu : ∀ k', (upd c k { c k with held := xs } k').put = (c k').put := fun k' => by
    by_cases e : k' = k
    · subst e; rw [upd_self]
    · rw [upd_other e]
  have far : ∀ {i : Nat}, 37 ≤ i → fset fv (1 + k * 9 + 7) v' i = fv i := fun hi => fset_other (by omega)
  refine ⟨hff.set (by omega) _, (fset_other (by omega)).trans h.f0, fun k' hk' => ?_, fun k' hk' => ?_, fun k' hk' => ?_, fun k' hk' => ?_, fun k' hk' => ?_, fun k' hk' => ?_, fun k' hk' => ?_, fun k' hk' => ?_, fun k' g hk' hg => ?_, fun k' hk' => ?_, fun k' g hk' hg => ?_, ?_, fun g hg => ?_, ?_, fun g hg => ?_, fun i l v hl hv => own_two (h.si i l v hl hv) (fun g => h.sj i v g hv) x (by omega) (by omega) hff.rf, fun i v g hv hg => ?_, (far (by omega)).trans h.mk_, (far (by omega)).trans h.fd⟩
  · have e := hf (k' := k') (i := 0) (by omega)
    rw [if_neg (fun w => absurd w.2 (by omega))] at e
    refine e.trans ((h.a0 k' hk').trans ?_)
    by_cases q : k' = k
    · rw [q, upd_self]
    · rw [upd_other q]
  · have e := hf (k' := k') (i := 1) (by omega)
    rw [if_neg (fun w => absurd w.2 (by omega))] at e
    refine e.trans ((h.a1 k' hk').trans ?_)
    by_cases q : k' = k
    · rw [q, upd_self]
    · rw [upd_other q]
  · have e := hf (k' := k') (i := 2) (by omega)
    rw [if_neg (fun w => absurd w.2 (by omega))] at e
    refine e.trans ((h.a2 k' hk').trans ?_)
    by_cases q : k' = k
    · rw [q, upd_self]
    · rw [upd_other q]
  · have e := hf (k' := k') (i := 3) (by omega)
    rw [if_neg (fun w => absurd w.2 (by omega))] at e
    refine e.trans ((h.a3 k' hk').trans ?_)
    by_cases q : k' = k
    · rw [q, upd_self]
    · rw [upd_other q]
  · have e := hf (k' := k') (i := 4) (by omega)
    rw [if_neg (fun w => absurd w.2 (by omega))] at e
    refine e.trans ((h.a4 k' hk').trans ?_)
    by_cases q : k' = k
    · rw [q, upd_self]
    · rw [upd_other q]
  · have e := hf (k' := k') (i := 5) (by omega)
    rw [if_neg (fun w => absurd w.2 (by omega))] at e
    refine e.trans ((h.a5 k' hk').trans ?_)
    by_cases q : k' = k
    · rw [q, upd_self]
    · rw [upd_other q]
  · have e := hf (k' := k') (i := 6) (by omega)
    rw [if_neg (fun w => absurd w.2 (by omega))] at e
    refine e.trans ((h.a6 k' hk').trans ?_)
    by_cases q : k' = k
    · rw [q, upd_self]
    · rw [upd_other q]
  · have e := hf (k' := k') (i := 7) (by omega)
    by_cases q : k' = k
    · rw [if_pos ⟨q, rfl⟩] at e
      rw [e, q, upd_self]
      exact (keeps_set W5 fb (1 + k * 9 + 7) v').owns own (fun g hg e => by have := hg' g hg; rw [e, hff.rf] at this; omega)
    · rw [if_neg (fun w => q w.1)] at e
      rw [e, upd_other q]
      exact own_two (h.hh k' hk') (fun g => h.hr k' g hk') x (by omega) (by omega) hff.rf
  · have e := hf (k' := k') (i := 7) (by omega)
    by_cases q : k' = k
    · rw [if_pos ⟨q, rfl⟩] at e
      rw [e] at hg
      rw [q]
      exact hg' g hg
    · rw [if_neg (fun w => q w.1)] at e
      rw [e] at hg
      exact role_ext (h.hh k' hk') (fun g => h.hr k' g hk') x g hg
  · have e := hf (k' := k') (i := 8) (by omega)
    rw [if_neg (fun w => absurd w.2 (by omega))] at e
    rw [e, hu]
    exact own_two (h.ph k' hk') (fun g => h.pr k' g hk') x (by omega) (by omega) hff.rf
  · have e := hf (k' := k') (i := 8) (by omega)
    rw [if_neg (fun w => absurd w.2 (by omega))] at e
    rw [e] at hg
    exact role_ext (h.ph k' hk') (fun g => h.pr k' g hk') x g hg
  · rw [far (by omega)]; exact own_two h.wo h.wr x (by omega) (by omega) hff.rf
  · rw [far (by omega)] at hg; exact role_ext h.wo h.wr x g hg
  · rw [far (by omega)]; exact own_two h.so h.sr x (by omega) (by omega) hff.rf
  · rw [far (by omega)] at hg; exact role_ext h.so h.sr x g hg
  · have hil : i < was.length := by
      have h1 := h.so.1
      rw [Nat.mul_one] at h1
      rw [← h1]
      exact (List.getElem?_eq_some_iff.1 hv).1
    exact role_ext (h.si i _ v (List.getElem?_eq_getElem hil) hv) (fun g => h.sj i v g hv) x g hg
/-- A client's list is written anew. -/
theorem FL.re8 (h : FL W ρ fb rb fv c want was ws mk) {k : Nat} (hk : k < 4) (x : Ext (fun r => r = 13 + k) W W5 ρ ρ') {v' : Value} {xs : List Int} (own : W5.ownsRow 0 2 1 v' xs.length (iis xs)) (hg' : ∀ g, v'.ownBlock = some g → ρ' g = 13 + k) : FL (W5.setCell ⟨fb, 1 + k * 9 + 8, none⟩ v') ρ' fb rb (fset fv (1 + k * 9 + 8) v') (upd c k { c k with put := xs }) want was ws mk := by
  have hff : FF W5 ρ' fb fv := h.ff.ext x (by omega)
  have hf : ∀ {k' i : Nat}, i < 9 → fset fv (1 + k * 9 + 8) v' (1 + k' * 9 + i) = if k' = k ∧ i = 8 then v' else fv (1 + k' * 9 + i) := fun hi => fset_cl (j := 8) hi (by omega)
  have hu : ∀ k', (upd c k { c k with put := xs } k').held = (c k').held := fun k' => by
    by_cases e : k' = k
    · subst e; rw [upd_self]
    · rw [upd_other e]
  have far : ∀ {i : Nat}, 37 ≤ i → fset fv (1 + k * 9 + 8) v' i = fv i := fun hi => fset_other (by omega)
  refine ⟨hff.set (by omega) _, (fset_other (by omega)).trans h.f0, fun k' hk' => ?_, fun k' hk' => ?_, fun k' hk' => ?_, fun k' hk' => ?_, fun k' hk' => ?_, fun k' hk' => ?_, fun k' hk' => ?_, fun k' hk' => ?_, fun k' g hk' hg => ?_, fun k' hk' => ?_, fun k' g hk' hg => ?_, ?_, fun g hg => ?_, ?_, fun g hg => ?_, fun i l v hl hv => own_two (h.si i l v hl hv) (fun g => h.sj i v g hv) x (by omega) (by omega) hff.rf, fun i v g hv hg => ?_, (far (by omega)).trans h.mk_, (far (by omega)).trans h.fd⟩
  · have e := hf (k' := k') (i := 0) (by omega)
    rw [if_neg (fun w => absurd w.2 (by omega))] at e
    refine e.trans ((h.a0 k' hk').trans ?_)
    by_cases q : k' = k
    · rw [q, upd_self]
    · rw [upd_other q]
  · have e := hf (k' := k') (i := 1) (by omega)
    rw [if_neg (fun w => absurd w.2 (by omega))] at e
    refine e.trans ((h.a1 k' hk').trans ?_)
    by_cases q : k' = k
    · rw [q, upd_self]
    · rw [upd_other q]
  · have e := hf (k' := k') (i := 2) (by omega)
    rw [if_neg (fun w => absurd w.2 (by omega))] at e
    refine e.trans ((h.a2 k' hk').trans ?_)
    by_cases q : k' = k
    · rw [q, upd_self]
    · rw [upd_other q]
  · have e := hf (k' := k') (i := 3) (by omega)
    rw [if_neg (fun w => absurd w.2 (by omega))] at e
    refine e.trans ((h.a3 k' hk').trans ?_)
    by_cases q : k' = k
    · rw [q, upd_self]
    · rw [upd_other q]
  · have e := hf (k' := k') (i := 4) (by omega)
    rw [if_neg (fun w => absurd w.2 (by omega))] at e
    refine e.trans ((h.a4 k' hk').trans ?_)
    by_cases q : k' = k
    · rw [q, upd_self]
    · rw [upd_other q]
  · have e := hf (k' := k') (i := 5) (by omega)
    rw [if_neg (fun w => absurd w.2 (by omega))] at e
    refine e.trans ((h.a5 k' hk').trans ?_)
    by_cases q : k' = k
    · rw [q, upd_self]
    · rw [upd_other q]
  · have e := hf (k' := k') (i := 6) (by omega)
    rw [if_neg (fun w => absurd w.2 (by omega))] at e
    refine e.trans ((h.a6 k' hk').trans ?_)
    by_cases q : k' = k
    · rw [q, upd_self]
    · rw [upd_other q]
  · have e := hf (k' := k') (i := 7) (by omega)
    rw [if_neg (fun w => absurd w.2 (by omega))] at e
    rw [e, hu]
    exact own_two (h.hh k' hk') (fun g => h.hr k' g hk') x (by omega) (by omega) hff.rf
  · have e := hf (k' := k') (i := 7) (by omega)
    rw [if_neg (fun w => absurd w.2 (by omega))] at e
    rw [e] at hg
    exact role_ext (h.hh k' hk') (fun g => h.hr k' g hk') x g hg
  · have e := hf (k' := k') (i := 8) (by omega)
    by_cases q : k' = k
    · rw [if_pos ⟨q, rfl⟩] at e
      rw [e, q, upd_self]
      exact (keeps_set W5 fb (1 + k * 9 + 8) v').owns own (fun g hg e => by have := hg' g hg; rw [e, hff.rf] at this; omega)
    · rw [if_neg (fun w => q w.1)] at e
      rw [e, upd_other q]
      exact own_two (h.ph k' hk') (fun g => h.pr k' g hk') x (by omega) (by omega) hff.rf
  · have e := hf (k' := k') (i := 8) (by omega)
    by_cases q : k' = k
    · rw [if_pos ⟨q, rfl⟩] at e
      rw [e] at hg
      rw [q]
      exact hg' g hg
    · rw [if_neg (fun w => q w.1)] at e
      rw [e] at hg
      exact role_ext (h.ph k' hk') (fun g => h.pr k' g hk') x g hg
  · rw [far (by omega)]; exact own_two h.wo h.wr x (by omega) (by omega) hff.rf
  · rw [far (by omega)] at hg; exact role_ext h.wo h.wr x g hg
  · rw [far (by omega)]; exact own_two h.so h.sr x (by omega) (by omega) hff.rf
  · rw [far (by omega)] at hg; exact role_ext h.so h.sr x g hg
  · have hil : i < was.length := by
      have h1 := h.so.1
      rw [Nat.mul_one] at h1
      rw [← h1]
      exact (List.getElem?_eq_some_iff.1 hv).1
    exact role_ext (h.si i _ v (List.getElem?_eq_getElem hil) hv) (fun g => h.sj i v g hv) x g hg
/-- The marks. -/
theorem FL.set_mk (h : FL W ρ fb rb fv c want was ws mk) (x : Int) : FL (W.setCell ⟨fb, 39, none⟩ (.int .i64 x)) ρ fb rb (fset fv 39 (.int .i64 x)) c want was ws x := by
  have hf : ∀ {i : Nat}, i ≠ 39 → fset fv 39 (.int .i64 x) i = fv i := fun hi => fset_other hi
  refine ⟨h.ff.set (by omega) _, (hf (by omega)).trans h.f0, fun k hk => (hf (by omega)).trans (h.a0 k hk), fun k hk => (hf (by omega)).trans (h.a1 k hk), fun k hk => (hf (by omega)).trans (h.a2 k hk), fun k hk => (hf (by omega)).trans (h.a3 k hk), fun k hk => (hf (by omega)).trans (h.a4 k hk), fun k hk => (hf (by omega)).trans (h.a5 k hk), fun k hk => (hf (by omega)).trans (h.a6 k hk), fun k hk => ?_, fun k g hk hg => ?_, fun k hk => ?_, fun k g hk hg => ?_, ?_, fun g hg => ?_, ?_, fun g hg => ?_, fun i l v hl hv => FL.lists h.ff (h.si i l v hl hv) (fun g => h.sj i v g hv) (by omega), h.sj, fset_self, (hf (by omega)).trans h.fd⟩
  · rw [hf (by omega)]; exact FL.lists h.ff (h.hh k hk) (fun g => h.hr k g hk) (by omega)
  · rw [hf (by omega)] at hg; exact h.hr k g hk hg
  · rw [hf (by omega)]; exact FL.lists h.ff (h.ph k hk) (fun g => h.pr k g hk) (by omega)
  · rw [hf (by omega)] at hg; exact h.pr k g hk hg
  · rw [hf (by omega)]; exact FL.lists h.ff h.wo h.wr (by omega)
  · rw [hf (by omega)] at hg; exact h.wr g hg
  · rw [hf (by omega)]; exact FL.lists h.ff h.so h.sr (by omega)
  · rw [hf (by omega)] at hg; exact h.sr g hg
/-- A list is put behind what was. -/
theorem FL.re38 (h : FL W ρ fb rb fv c want was ws mk) (x : Ext (fun r => r = 18 ∨ r = 19) W W5 ρ ρ') {v' u : Value} {l : List Vl} (own : W5.ownsRow 0 27 1 v' (was.length + 1) (ws ++ [u])) (hg' : ∀ g, v'.ownBlock = some g → ρ' g = 18) (hs : ∀ (i : Nat) (l : List Vl) (v : Value), was[i]? = some l → ws[i]? = some v → W5.ownsRow 0 52 3 v l.length (fl vc3 l)) (hu : W5.ownsRow 0 52 3 u l.length (fl vc3 l)) (hur : ∀ g, u.ownBlock = some g → ρ' g = 19) :
    FL (W5.setCell ⟨fb, 38, none⟩ v') ρ' fb rb (fset fv 38 v') c want (was ++ [l]) (ws ++ [u]) mk := by
  have hff : FF W5 ρ' fb fv := h.ff.ext x (by omega)
  have hf : ∀ {i : Nat}, i ≠ 38 → fset fv 38 v' i = fv i := fun hi => fset_other hi
  have hl : ws.length = was.length := by
    have h1 := h.so.1
    rwa [Nat.mul_one] at h1
  refine ⟨hff.set (by omega) _, (hf (by omega)).trans h.f0, fun k hk => (hf (by omega)).trans (h.a0 k hk), fun k hk => (hf (by omega)).trans (h.a1 k hk), fun k hk => (hf (by omega)).trans (h.a2 k hk), fun k hk => (hf (by omega)).trans (h.a3 k hk), fun k hk => (hf (by omega)).trans (h.a4 k hk), fun k hk => (hf (by omega)).trans (h.a5 k hk), fun k hk => (hf (by omega)).trans (h.a6 k hk), fun k hk => ?_, fun k g hk hg => ?_, fun k hk => ?_, fun k g hk hg => ?_, ?_, fun g hg => ?_, ?_, fun g hg => ?_, fun i l' v hl' hv => ?_, fun i v g hv hg => ?_, (hf (by omega)).trans h.mk_, (hf (by omega)).trans h.fd⟩
  · rw [hf (by omega)]; exact own_two (h.hh k hk) (fun g => h.hr k g hk) x (by omega) (by omega) hff.rf
  · rw [hf (by omega)] at hg; exact role_ext (h.hh k hk) (fun g => h.hr k g hk) x g hg
  · rw [hf (by omega)]; exact own_two (h.ph k hk) (fun g => h.pr k g hk) x (by omega) (by omega) hff.rf
  · rw [hf (by omega)] at hg; exact role_ext (h.ph k hk) (fun g => h.pr k g hk) x g hg
  · rw [hf (by omega)]; exact own_two h.wo h.wr x (by omega) (by omega) hff.rf
  · rw [hf (by omega)] at hg; exact role_ext h.wo h.wr x g hg
  · rw [fset_self, List.length_append, List.length_singleton]
    exact (keeps_set W5 fb 38 v').owns own (fun g hg e => by have := hg' g hg; rw [e, hff.rf] at this; omega)
  · rw [fset_self] at hg; exact hg' g hg
  · refine (keeps_set W5 fb 38 v').owns ?_ (fun g hg e => ?_)
    · by_cases q : i < was.length
      · rw [List.getElem?_append_left q] at hl'
        rw [List.getElem?_append_left (by omega)] at hv
        exact hs i l' v hl' hv
      · have q' : i = was.length := by
          have := (List.getElem?_eq_some_iff.1 hl').1
          simp at this
          omega
        subst q'
        simp at hl'
        rw [← hl] at hv
        simp at hv
        rw [← hl', ← hv]
        exact hu
    · have : ρ' g = 19 := by
        by_cases q : i < was.length
        · rw [List.getElem?_append_left (by omega)] at hv
          exact role_ext (h.si i _ v (List.getElem?_eq_getElem q) hv) (fun g => h.sj i v g hv) x g hg
        · have q' : i = ws.length := by
            have := (List.getElem?_eq_some_iff.1 hv).1
            simp at this
            omega
          subst q'
          simp at hv
          rw [← hv] at hg
          exact hur g hg
      rw [e, hff.rf] at this
      omega
  · by_cases q : i < was.length
    · rw [List.getElem?_append_left (by omega)] at hv
      exact role_ext (h.si i _ v (List.getElem?_eq_getElem q) hv) (fun g => h.sj i v g hv) x g hg
    · have q' : i = ws.length := by
        have := (List.getElem?_eq_some_iff.1 hv).1
        simp at this
        omega
      subst q'
      simp at hv
      rw [← hv] at hg
      exact hur g hg
/-- What is wanted turns. -/
theorem FL.re37 (h : FL W ρ fb rb fv c want was ws mk) (x : Ext (fun r => r = 17) W W5 ρ ρ) {want' : List Vl} (own : W5.ownsRow 0 52 3 (fv 37) want'.length (fl vc3 want')) : FL W5 ρ fb rb fv c want' was ws mk := by
  refine ⟨h.ff.ext x (by omega), h.f0, h.a0, h.a1, h.a2, h.a3, h.a4, h.a5, h.a6, fun k hk => own_ext (h.hh k hk) (fun g => h.hr k g hk) x (by omega), h.hr, fun k hk => own_ext (h.ph k hk) (fun g => h.pr k g hk) x (by omega), h.pr, own, h.wr, own_ext h.so h.sr x (by omega), h.sr, fun i l v hl hv => own_ext (h.si i l v hl hv) (fun g => h.sj i v g hv) x (by omega), h.sj, h.mk_, h.fd⟩
end
/-- A region's end is said ahead; F: the frame. -/
theorem wp_cut {P : Program} {c : Code} {a : Act} {w : World} {Q' : Exit → Act → World → Prop} {R : (Nat → Int → Bool → Int → Act) → Exit → Act → World → Prop} (F : Nat → Int → Bool → Int → Act) (h : c.wp P (R F) a w) (hq : ∀ e a w, R F e a w → Q' e a w) : c.wp P Q' a w := wp_mono h hq
/-- What a call leaves, beside Q. -/
def KQ (Wb : World) (fb : Nat) (Q : Nat → Prop) (A B : World) : Prop := Keeps (fun k => Wb.heap.size ≤ k ∧ ¬ Q k ∧ k ≠ fb) A B
/-- The floor over a world, its roles hidden; Q: blocks of the caller's own; Wb: the world ahead. -/
structure GX (Wb : World) (Q : Nat → Prop) (fb rb wb mb : Nat) (s : Ws) (m : Mm) (n : Nat) (c : Nat → Cl) (want : List Vl) (was : List (List Vl)) (mk : Int) (W : World) : Prop where
  ex : ∃ ρ fv ws, Rs W ρ 1 2 7 rb wb mb s m n ∧ FL W ρ fb rb fv c want was ws mk ∧ (∀ k, Q k → k < W.heap.size ∧ Wb.heap.size ≤ k ∧ ρ k = 20) ∧ Keeps (fun _ => False) Wb W ∧ (∀ k, k < Wb.heap.size → ρ k = 0)
section
variable {Wb W W' : World} {Q Q' : Nat → Prop} {fb rb wb mb n : Nat} {s : Ws} {m : Mm} {c : Nat → Cl} {want : List Vl} {was : List (List Vl)} {mk : Int}
theorem KQ.trans {A B C : World} (h : KQ Wb fb Q A B) (k : KQ Wb fb Q B C) : KQ Wb fb Q A C := Keeps.trans h k
theorem KQ.own {A B : World} (h : KQ Wb fb Q W A) {x : Nat} (K : Keeps (fun i => i = x) A B) (hx : x < W.heap.size → Wb.heap.size ≤ x ∧ ¬ Q x ∧ x ≠ fb) : KQ Wb fb Q W B := Keeps.trans' h K (fun _ _ e => e) (fun i hi e => by subst e; exact hx hi)
theorem GX.eqW (h : GX Wb Q fb rb wb mb s m n c want was mk W) (e : W' = W) : GX Wb Q fb rb wb mb s m n c want was mk W' := e ▸ h
theorem KQ.new {A B : World} (h : Keeps (fun _ => False) A B) : KQ Wb fb Q A B := h.mono (fun _ _ e => e.elim)
theorem KQ.weak {A B : World} (h : KQ Wb fb Q A B) (hQ : ∀ k, Q' k → Q k) : KQ Wb fb Q' A B := h.mono (fun _ _ e => ⟨e.1, fun q => e.2.1 (hQ _ q), e.2.2⟩)
theorem KQ.cell {A B : World} (h : KQ Wb fb Q A B) {p : Addr} {v : Value} (hc : A.cell? p = some v) (hq : Q p.block) : B.cell? p = some v := Keeps.cell h hc (fun e => e.2.1 hq)
theorem KQ.fcell {A B : World} (h : KQ Wb fb Q A B) {o : Nat} {v : Value} (hc : A.cell? ⟨fb, o, none⟩ = some v) : B.cell? ⟨fb, o, none⟩ = some v := Keeps.cell h hc (fun e => e.2.2 rfl)
theorem GX.new (h : GX Wb Q fb rb wb mb s m n c want was mk W) (K : Keeps (fun _ => False) W W') : GX Wb Q fb rb wb mb s m n c want was mk W' := by
  obtain ⟨ρ, fv, ws, R, F, q, k, z⟩ := h
  exact ⟨ρ, fv, ws, (R.new K).1, F.new K, fun i hi => ⟨Nat.lt_of_lt_of_le (q i hi).1 K.size, (q i hi).2⟩, k.trans K, z⟩
theorem GX.weak (h : GX Wb Q fb rb wb mb s m n c want was mk W) (hQ : ∀ k, Q' k → Q k) : GX Wb Q' fb rb wb mb s m n c want was mk W := by
  obtain ⟨ρ, fv, ws, R, F, q, k, z⟩ := h
  exact ⟨ρ, fv, ws, R, F, fun i hi => q i (hQ i hi), k, z⟩
theorem GX.base (h : GX Wb Q fb rb wb mb s m n c want was mk W) : Keeps (fun _ => False) Wb W := by
  obtain ⟨ρ, fv, ws, R, F, q, k, z⟩ := h
  exact k
/-- A block of the caller's own. -/
theorem GX.lay (h : GX Wb Q fb rb wb mb s m n c want was mk W) (ob : Obj) : GX Wb (fun k => Q k ∨ k = W.heap.size) fb rb wb mb s m n c want was mk (W.alloc ob) := by
  obtain ⟨ρ, fv, ws, R, F, q, k, z⟩ := h
  obtain ⟨ρ', R', x, r⟩ := R.lay ob
  have sz := k.size
  refine ⟨ρ', fv, ws, R', F.ext x (fun r h1 h2 e => by omega), fun i hi => ?_, k.alloc _, fun i hi => (x.old i (by omega)).trans (z i hi)⟩
  rcases hi with hi | rfl
  · exact ⟨by have := (q i hi).1; simp; omega, (q i hi).2.1, (x.old i (q i hi).1).trans (q i hi).2.2⟩
  · exact ⟨by simp, sz, r⟩
/-- A block of the caller's own is written. -/
theorem GX.wr (h : GX Wb Q fb rb wb mb s m n c want was mk W) {B : Nat} (hB : Q B) (K : Keeps (fun i => i = B) W W') : GX Wb Q fb rb wb mb s m n c want was mk W' := by
  obtain ⟨ρ, fv, ws, R, F, q, k, z⟩ := h
  have qb := q B hB
  have x : Ext (fun r => r = 20) W W' ρ ρ := ⟨K.mono (fun i _ e => by rw [e]; exact qb.2.2), fun _ _ => rfl, fun i hi => .inr (R.st.bnd i hi)⟩
  exact ⟨ρ, fv, ws, R.beside (x.mono (fun _ e => by omega)) (fun i hi => R.st.bnd i (Nat.le_trans K.size hi)), F.ext x (fun r h1 h2 e => by omega), fun i hi => ⟨Nat.lt_of_lt_of_le (q i hi).1 K.size, (q i hi).2⟩, k.trans' K (fun _ _ e => e) (fun i hi e => by omega), z⟩
/-- An access, or another call of the raw's. -/
theorem GX.does (h : GX Wb Q fb rb wb mb s m n c want was mk W) (hn : n ≤ 2499999999999) (o : Oq) :
    Calls Try.prog 21 #[.pointer (some ⟨rb, 0, none⟩), opv o] W fun e w' => ∃ er d nn s' m1 m' n', e = .returned (.agg #[.int .i64 er, .bool d, .int .i64 nn]) ∧ Opn m n o m1 n' ∧ Do s m1 o s' m' er d nn ∧ GX Wb Q fb rb wb mb s' m' n' c want was mk w' ∧ KQ Wb fb Q W w' := by
  obtain ⟨ρ, fv, ws, R, F, q, k, z⟩ := h
  refine (does_any R hn o).mono ?_
  rintro e w' ⟨er, d, nn, rfl, ρ', s', m1, m', n', hop, hd, R', x⟩
  have n0 : ¬ Sq 1 2 7 0 := R.not0
  have ns : ∀ i, Wb.heap.size ≤ i ∨ ¬ Sq 1 2 7 (ρ i) := fun i => (Nat.lt_or_ge i Wb.heap.size).elim (fun e => .inr (by rw [z i e]; exact n0)) .inl
  refine ⟨er, d, nn, s', m1, m', n', rfl, hop, hd, ⟨ρ', fv, ws, R', F.ext x (fun r h1 h2 => sf_not h1), fun i hi => ⟨Nat.lt_of_lt_of_le (q i hi).1 x.keeps.size, (q i hi).2.1, (x.old i (q i hi).1).trans (q i hi).2.2⟩, k.trans' x.keeps (fun _ _ e => e) (fun i hi e => ((ns i).elim (fun q => by omega) (fun q => q e))), fun i hi => (x.old i (Nat.lt_of_lt_of_le hi k.size)).trans (z i hi)⟩, x.keeps.mono (fun i _ e => ⟨(ns i).elim id (fun q => (q e).elim), fun hq => ?_, fun hq => ?_⟩)⟩
  · have := (q i hq).2.2
    rw [this] at e
    exact sf_not (by omega) e
  · rw [hq, F.ff.rf] at e
    exact sf_not (by omega) e
/-- The floor's cells. -/
theorem GX.cells (h : GX Wb Q fb rb wb mb s m n c want was mk W) : W.cell? ⟨fb, 0, none⟩ = some (.pointer (some ⟨rb, 0, none⟩)) ∧ (∀ o, W.frozen? ⟨fb, o, none⟩ = false) ∧ fb < W.heap.size ∧ ¬ Q fb ∧ Wb.heap.size ≤ fb ∧ W.cell? ⟨rb, 1, none⟩ = some (.pointer (some ⟨wb, 0, none⟩)) ∧ W.cell? ⟨fb, 39, none⟩ = some (.int .i64 mk) ∧ W.cell? ⟨fb, 40, none⟩ = some (.bool false) := by
  obtain ⟨ρ, fv, ws, R, F, q, k, z⟩ := h
  refine ⟨by rw [← F.f0]; exact F.ff.cs 0 (by omega), F.ff.fz, F.ff.lt, fun e => ?_, ?_, R.c1, by rw [← F.mk_]; exact F.ff.cs 39 (by omega), by rw [← F.fd]; exact F.ff.cs 40 (by omega)⟩
  · have := (q fb e).2.2
    rw [F.ff.rf] at this
    omega
  · rcases Nat.lt_or_ge fb Wb.heap.size with e | e
    · have := z fb e
      rw [F.ff.rf] at this
      omega
    · exact e
/-- A client's cells. -/
structure CC (W : World) (fb k : Nat) (x : Cl) : Prop where
  c0 : W.cell? ⟨fb, 1 + k * 9, none⟩ = some (.int .i64 (x.at_ : Int))
  c1 : W.cell? ⟨fb, 1 + k * 9 + 1, none⟩ = some (.int .i64 (x.att : Int))
  c2 : W.cell? ⟨fb, 1 + k * 9 + 2, none⟩ = some (.int .i64 (x.obj : Int))
  c3 : W.cell? ⟨fb, 1 + k * 9 + 3, none⟩ = some (.int .i64 (x.loc : Int))
  c4 : W.cell? ⟨fb, 1 + k * 9 + 4, none⟩ = some (.int .i64 (x.own : Int))
  c5 : W.cell? ⟨fb, 1 + k * 9 + 5, none⟩ = some (.int .i64 (x.cur : Int))
  c6 : W.cell? ⟨fb, 1 + k * 9 + 6, none⟩ = some (.int .i64 (x.since : Int))
  c7 : ∃ a cap, W.cell? ⟨fb, 1 + k * 9 + 7, none⟩ = some (.slice a x.held.length cap) ∧ ∀ i, i < x.held.length → ∃ g, a = some ⟨g, 0, none⟩ ∧ g ≠ fb ∧ W.cell? ⟨g, i, none⟩ = some (.int .i64 (x.held.getD i 0 : Nat))
  c8 : ∃ a cap, W.cell? ⟨fb, 1 + k * 9 + 8, none⟩ = some (.slice a x.put.length cap) ∧ ∀ i, i < x.put.length → ∃ g, a = some ⟨g, 0, none⟩ ∧ g ≠ fb ∧ W.cell? ⟨g, i, none⟩ = some (.int .i64 (x.put.getD i 0))
theorem GX.cc (h : GX Wb Q fb rb wb mb s m n c want was mk W) {k : Nat} (hk : k < 4) : CC W fb k (c k) := by
  obtain ⟨ρ, fv, ws, R, F, q, kk, z⟩ := h
  obtain ⟨a7, p7, e7, l7⟩ := F.held hk
  obtain ⟨a8, p8, e8, l8⟩ := F.puts hk
  refine ⟨?_, ?_, ?_, ?_, ?_, ?_, ?_, ⟨a7, p7, ?_, fun i hi => ?_⟩, ⟨a8, p8, ?_, fun i hi => ?_⟩⟩
  · rw [← F.a0 k hk]; exact F.ff.cs _ (by omega)
  · rw [← F.a1 k hk]; exact F.ff.cs _ (by omega)
  · rw [← F.a2 k hk]; exact F.ff.cs _ (by omega)
  · rw [← F.a3 k hk]; exact F.ff.cs _ (by omega)
  · rw [← F.a4 k hk]; exact F.ff.cs _ (by omega)
  · rw [← F.a5 k hk]; exact F.ff.cs _ (by omega)
  · rw [← F.a6 k hk]; exact F.ff.cs _ (by omega)
  · rw [← e7]; exact F.ff.cs _ (by omega)
  · obtain ⟨g, e, hc⟩ := l7 i hi
    refine ⟨g, e, fun e' => ?_, hc⟩
    have := F.hr k g hk (by rw [e7, e]; rfl)
    rw [e', F.ff.rf] at this
    omega
  · rw [← e8]; exact F.ff.cs _ (by omega)
  · obtain ⟨g, e, hc⟩ := l8 i hi
    refine ⟨g, e, fun e' => ?_, hc⟩
    have := F.pr k g hk (by rw [e8, e]; rfl)
    rw [e', F.ff.rf] at this
    omega
/-- The floor's block alone has turned. -/
theorem GX.fl (h : GX Wb Q fb rb wb mb s m n c want was mk W) {c' : Nat → Cl} {mk' : Int} (K : Keeps (fun i => i = fb) W W') (hF : ∀ ρ fv ws, FL W ρ fb rb fv c want was ws mk → ∃ fv', FL W' ρ fb rb fv' c' want was ws mk') : GX Wb Q fb rb wb mb s m n c' want was mk' W' := by
  have hw := h.cells.2.2.2.2.1
  obtain ⟨ρ, fv, ws, R, F, q, k, z⟩ := h
  obtain ⟨fv', F'⟩ := hF ρ fv ws F
  have x : Ext (fun i => 8 ≤ i) W W' ρ ρ := ⟨K.mono (fun i _ e => by rw [e, F.ff.rf]; exact Nat.le_refl _), fun _ _ => rfl, fun i hi => .inr (R.st.bnd i hi)⟩
  exact ⟨ρ, fv', ws, R.beside x (fun i hi => R.st.bnd i (Nat.le_trans K.size hi)), F', fun i hi => ⟨Nat.lt_of_lt_of_le (q i hi).1 K.size, (q i hi).2⟩, k.trans' K (fun _ _ e => e) (fun i hi e => by omega), z⟩
theorem GX.set_at_ (h : GX Wb Q fb rb wb mb s m n c want was mk W) {k : Nat} (hk : k < 4) (x : Nat) : GX Wb Q fb rb wb mb s m n (upd c k { c k with at_ := x }) want was mk (W.setCell ⟨fb, 1 + k * 9, none⟩ (.int .i64 (x : Int))) := h.fl (keeps_set _ _ _ _) (fun _ _ _ F => ⟨_, F.set_at_ hk x⟩)
theorem GX.set_att (h : GX Wb Q fb rb wb mb s m n c want was mk W) {k : Nat} (hk : k < 4) (x : Nat) : GX Wb Q fb rb wb mb s m n (upd c k { c k with att := x }) want was mk (W.setCell ⟨fb, 1 + k * 9 + 1, none⟩ (.int .i64 (x : Int))) := h.fl (keeps_set _ _ _ _) (fun _ _ _ F => ⟨_, F.set_att hk x⟩)
theorem GX.set_obj (h : GX Wb Q fb rb wb mb s m n c want was mk W) {k : Nat} (hk : k < 4) (x : Nat) : GX Wb Q fb rb wb mb s m n (upd c k { c k with obj := x }) want was mk (W.setCell ⟨fb, 1 + k * 9 + 2, none⟩ (.int .i64 (x : Int))) := h.fl (keeps_set _ _ _ _) (fun _ _ _ F => ⟨_, F.set_obj hk x⟩)
theorem GX.set_loc (h : GX Wb Q fb rb wb mb s m n c want was mk W) {k : Nat} (hk : k < 4) (x : Nat) : GX Wb Q fb rb wb mb s m n (upd c k { c k with loc := x }) want was mk (W.setCell ⟨fb, 1 + k * 9 + 3, none⟩ (.int .i64 (x : Int))) := h.fl (keeps_set _ _ _ _) (fun _ _ _ F => ⟨_, F.set_loc hk x⟩)
theorem GX.set_own (h : GX Wb Q fb rb wb mb s m n c want was mk W) {k : Nat} (hk : k < 4) (x : Nat) : GX Wb Q fb rb wb mb s m n (upd c k { c k with own := x }) want was mk (W.setCell ⟨fb, 1 + k * 9 + 4, none⟩ (.int .i64 (x : Int))) := h.fl (keeps_set _ _ _ _) (fun _ _ _ F => ⟨_, F.set_own hk x⟩)
theorem GX.set_cur (h : GX Wb Q fb rb wb mb s m n c want was mk W) {k : Nat} (hk : k < 4) (x : Nat) : GX Wb Q fb rb wb mb s m n (upd c k { c k with cur := x }) want was mk (W.setCell ⟨fb, 1 + k * 9 + 5, none⟩ (.int .i64 (x : Int))) := h.fl (keeps_set _ _ _ _) (fun _ _ _ F => ⟨_, F.set_cur hk x⟩)
theorem GX.set_since (h : GX Wb Q fb rb wb mb s m n c want was mk W) {k : Nat} (hk : k < 4) (x : Nat) : GX Wb Q fb rb wb mb s m n (upd c k { c k with since := x }) want was mk (W.setCell ⟨fb, 1 + k * 9 + 6, none⟩ (.int .i64 (x : Int))) := h.fl (keeps_set _ _ _ _) (fun _ _ _ F => ⟨_, F.set_since hk x⟩)
theorem GX.set_mk (h : GX Wb Q fb rb wb mb s m n c want was mk W) (x : Int) : GX Wb Q fb rb wb mb s m n c want was x (W.setCell ⟨fb, 39, none⟩ (.int .i64 x)) := h.fl (keeps_set _ _ _ _) (fun _ _ _ F => ⟨_, F.set_mk x⟩)
/-- An answer in a block of the caller's own. -/
theorem GX.ans (h : GX Wb Q fb rb wb mb s m n c want was mk W) (er : Int) (d : Bool) (nn : Int) : GX Wb (fun k => Q k ∨ k = W.heap.size) fb rb wb mb s m n c want was mk (W.alloc (.cells #[.int .i64 er, .bool d, .int .i64 nn] 67)) ∧ AB (W.alloc (.cells #[.int .i64 er, .bool d, .int .i64 nn] 67)) W.heap.size er d nn := ⟨h.lay _, AB.mk _ _ _ _⟩
/-- A region with an access: where it ends. -/
structure DN (Wb : World) (Q : Nat → Prop) (fb rb wb mb : Nat) (c : Nat → Cl) (want : List Vl) (was : List (List Vl)) (mk : Int) (s : Ws) (m : Mm) (n : Nat) (o : Oq) (W : World) (F : Nat → Int → Bool → Int → Act) (e : Exit) (a : Act) (w : World) : Prop where
  ex : e = Exit.normal ∧ ∃ (ab : Nat) (er : Int) (d : Bool) (nn : Int) (s4 : Ws) (m1 m4 : Mm) (n4 : Nat), a = F ab er d nn ∧ GX Wb (fun k => Q k ∨ k = ab) fb rb wb mb s4 m4 n4 c want was mk w ∧ AB w ab er d nn ∧ KQ Wb fb Q W w ∧ Opn m n o m1 n4 ∧ Do s m1 o s4 m4 er d nn
end
end Go.Proofs.Ytdeiochjkbogpaa
