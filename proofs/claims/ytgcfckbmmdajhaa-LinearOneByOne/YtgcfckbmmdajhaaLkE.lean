import Derived.Test.YtgcfckbmmdajhaaLkD
import Derived.Test.YtgcfckbmmdajhaaLiY
import Derived.Test.YtgcfckbmmdajhaaLjI
namespace Go.Proofs.Ytgcfckbmmdajhaa
open Go.RowKit
theorem goL_to {l : List Cl} {L : List Nat} : ∀ m k, k + m = L.length → GoL l (L.take k) (setK l L k) (L.drop k) → ∀ j, k ≤ j → j < L.length → okN l (L.take j) (setK l L j) (L.getD j 0) = true
  | 0, k, e, _, j, h1, h2 => by omega
  | m + 1, k, e, h, j, h1, h2 => by
    have hk : k < L.length := by omega
    have e1 : L.drop k = L.getD k 0 :: L.drop (k + 1) := by
      rw [List.drop_eq_getElem_cons hk, List.getD_eq_getElem?_getD, List.getElem?_eq_getElem hk]
      rfl
    rw [e1] at h
    obtain ⟨_, ho, hr⟩ := h
    by_cases ej : j = k
    · subst ej
      exact ho
    · refine goL_to m (k + 1) (by omega) ?_ j (by omega) h2
      rw [take_nextP hk]
      exact hr
/-- What is found is a line. -/
theorem fst_lnI {l : List Cl} {r : List Nat} (h : fstL l = some r) : LnI l (iOf r) := by
  unfold fstL at h
  obtain ⟨qs, e, hg, hc⟩ := srch_sound l _ _ _ _ h
  have e : r = qs := e
  subst e
  have hb := goL_nodup (L := []) List.nodup_nil (fun x hx => by cases hx) hg
  exact ⟨r, rfl, fun k hk => goL_to r.length 0 (by omega) hg k (by omega) hk, fun x hx => hb.2 x hx, hc⟩
/-- Where there is a line, one is found, and none stands ahead of it. -/
theorem lnI_fst {l : List Cl} {P : List Int} (h : LnI l P) : ∃ L r, P = iOf L ∧ fstL l = some r ∧ lexL r L := by
  obtain ⟨L, e, hln, hb, hc⟩ := h
  have hg := goL_of (l := l) (L := L) (fun k hk => ⟨hb _ (getD_mem hk), hln k hk⟩) L.length 0 (by omega)
  obtain ⟨rs, hr, hx⟩ := srch_first l.length L [] [] List.nodup_nil (fun _ h => by cases h) (by simp) hg hc
  exact ⟨L, rs, e, hr, hx⟩
theorem lex_none {A B : List Nat} {i : Nat} (ha : i < A.length) (hb : B.length ≤ i) : ¬ lexL (A.drop i) (B.drop i) := by
  rw [List.drop_eq_getElem_cons ha, List.drop_eq_nil_iff.2 hb]
  exact fun h => h
theorem lex_step {A B : List Nat} {i : Nat} (ha : i < A.length) (hb : i < B.length) : lexL (A.drop i) (B.drop i) ↔ A.getD i 0 < B.getD i 0 ∨ (A.getD i 0 = B.getD i 0 ∧ lexL (A.drop (i + 1)) (B.drop (i + 1))) := by
  rw [List.drop_eq_getElem_cons ha, List.drop_eq_getElem_cons hb, List.getD_eq_getElem?_getD, List.getD_eq_getElem?_getD, List.getElem?_eq_getElem ha, List.getElem?_eq_getElem hb]
  exact Iff.rfl
def AhP (A B : List Nat) (w : World) (e : Ending) (w' : World) : Prop := ∃ b, e = .returned (.bool b) ∧ (b = true ↔ lexL A B) ∧ Keeps (fun _ => False) w w'
theorem add_atK (b off n : Nat) : (⟨b, off, none⟩ : Addr).add n = ⟨b, off + n, none⟩ := by
  unfold Addr.add; split <;> simp_all
open Go.Deep Go.ChangeShapes Go.WideShapes Go.ChangeAt in
theorem open_nsK {H : Type} {enc : TypeId × Value → H} {P : Program} {W : World} {spare : Nat → Bool} {held : Bool} {t e : TypeId} {fuel : Nat} {a : Option Addr} {len cap : Nat} {x : DataW H × List MemPlace} (ht : P.underlying t = some (.slice e)) (he : P.underlying e = some (.int .i64)) (hc : P.cellsOf e = 1)
    (h : DataW.trod enc P W 0 spare held fuel t [.slice a len cap] = some x) : ∃ z : Nat → Int, (∀ i, i < len → ∃ b off, a = some ⟨b, off, none⟩ ∧ W.cell? ⟨b, off + i, none⟩ = some (.int .i64 (z i))) ∧ (len = 0 ∨ ∃ es ss, x.1 = .slice es ss ∧ len ≤ es.length + ss.length) := by
  by_cases h0 : len = 0
  · subst h0
    exact ⟨fun _ => 0, fun i hi => absurd hi (Nat.not_lt_zero _), .inl rfl⟩
  rcases open_slice ht h with ⟨hcs, _⟩ | ⟨a', len', cap', m, n, D, Pl, hcs, hb, hl, hm, hmm, rfl, hx⟩
  · simp at hcs; omega
  simp at hcs
  obtain ⟨rfl, rfl, rfl⟩ := hcs
  have hlm : len ≤ m := by rw [hmm]; split <;> omega
  have each : ∀ i, i < len → ∃ q : Int, W.cell? (a'.add i) = some (.int .i64 q) := by
    intro i hi
    obtain ⟨cs', h1, h2⟩ := hx i (by omega)
    rw [hc] at h1
    obtain ⟨_, hlen, hcell⟩ := World.cells?_some h1
    match cs', hlen with
    | [v0], _ =>
      obtain ⟨q0, r0, _, w0⟩ := DataW.trod_int he h2
      simp at r0
      subst r0
      have e0 := hcell 0 (by omega)
      rw [add_add] at e0
      exact ⟨q0, by simpa using e0⟩
  obtain ⟨b, off, spot⟩ := a'
  obtain ⟨_, z0⟩ := each 0 (by omega)
  have hspot : spot = none := by simpa [Addr.add] using World.cell?_spot z0
  subst hspot
  obtain ⟨V, hV⟩ := choose_lt each
  exact ⟨V, fun i hi => ⟨b, off, rfl, by simpa [add_atK] using hV i hi⟩, .inr ⟨_, _, rfl, by simp⟩⟩
theorem open_ints {H : Type} {enc : TypeId × Value → H} {P : Program} {W : World} {spare : Nat → Bool} {held : Bool} {t e : TypeId} {fuel : Nat} {a : Option Addr} {len cap : Nat} {x : DataW H × List MemPlace} (ht : P.underlying t = some (.slice e)) (he : P.underlying e = some (.int .i64)) (hc : P.cellsOf e = 1)
    (h : DataW.trod enc P W 0 spare held fuel t [.slice a len cap] = some x) : ∃ l : List Int, l.length = len ∧ KL W a l ∧ (len = 0 ∨ ∃ es ss, x.1 = .slice es ss ∧ len ≤ es.length + ss.length) := by
  obtain ⟨z, hz, hs⟩ := open_nsK ht he hc h
  refine ⟨(List.range len).map z, by simp, fun i hi => ?_, hs⟩
  have hi : i < len := by simpa using hi
  obtain ⟨b, off, e, hv⟩ := hz i hi
  refine ⟨b, off, e, ?_⟩
  rw [List.getD_eq_getElem?_getD, List.getElem?_map, List.getElem?_range hi]
  exact hv
end Go.Proofs.Ytgcfckbmmdajhaa
