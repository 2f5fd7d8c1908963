import Derived.Test.YtdeiochjkbogpaaLocT0
namespace Go.Proofs.Ytdeiochjkbogpaa
open Go.RowKit
section
variable {s s' : Ws} {m m' : Mm} {o : Oq} {e n : Int} {d : Bool}
theorem at_of {i k : Nat} (h : m.val (s.ob i) = (k : Int)) : s.at_ m i = k := by unfold Ws.at_; rw [show (ca m.cells (s.ob i)).2 = (k : Int) from h]; simp
/-- Nothing that an object's value hangs on has turned. -/
theorem value_same {i : Nat} (hob : s'.ob i = s.ob i) (hv : m'.val (s.ob i) = m.val (s.ob i)) (hlo : s'.lo (s.at_ m i) = s.lo (s.at_ m i)) (hat : s'.att (s.lo (s.at_ m i)).owner = s.att (s.lo (s.at_ m i)).owner) (hC : m'.val (s.att (s.lo (s.at_ m i)).owner).status = m.val (s.att (s.lo (s.at_ m i)).owner).status)
    (hn : s'.vl (s.now m i) = s.vl (s.now m i)) : s'.value m' i = s.value m i := by
  have e1 : s'.at_ m' i = s.at_ m i := by unfold Ws.at_; rw [hob]; rw [show (ca m'.cells (s.ob i)).2 = (ca m.cells (s.ob i)).2 from hv]
  have e2 : s'.isC m' (s.lo (s.at_ m i)).owner = s.isC m (s.lo (s.at_ m i)).owner := by unfold Ws.isC; rw [hat, show (ca m'.cells (s.att (s.lo (s.at_ m i)).owner).status).2 = (ca m.cells (s.att (s.lo (s.at_ m i)).owner).status).2 from hC]
  have e3 : s'.now m' i = s.now m i := by unfold Ws.now; rw [e1, hlo, e2]
  unfold Ws.value
  rw [e3]; exact hn
theorem vl_app {x : Vl} {ls : List Lo} {i : Nat} (h : i < s.vals.length) : (⟨s.objs, s.atts, ls, s.vals ++ [x]⟩ : Ws).vl i = s.vl i := by
  unfold Ws.vl
  simp [List.getD_eq_getElem?_getD, List.getElem?_append_left h]
theorem vl_put {x i : Nat} {v : Vl} (h : i ≠ x) : (s.put x v).vl i = s.vl i := by
  unfold Ws.vl Ws.put
  have e : ¬ x = i := fun q => h q.symm
  simp [List.getD_eq_getElem?_getD, e]
/-- Where an object stands. -/
theorem Inv.stand (h : Inv s m) {i : Nat} (hi : i < s.objs.length) : s.at_ m i < s.locs.length ∧ m.val (s.ob i) = (s.at_ m i : Int) ∧ (s.lo (s.at_ m i)).owner < s.atts.length ∧ (s.lo (s.at_ m i)).new = s.at_ m i ∧ (s.lo (s.at_ m i)).old < s.locs.length ∧ s.now m i < s.vals.length := by
  obtain ⟨k, e, hk, _⟩ := h.at_ i hi
  have e1 := at_of (s := s) e
  rw [e1]
  obtain ⟨a1, a2, a3⟩ := h.lo k hk
  refine ⟨hk, e, a3, a1, a2, ?_⟩
  unfold Ws.now
  rw [e1, h.vl]
  split
  · omega
  · exact a2
theorem objs_do (hd : Do s m o s' m' e d n) : s'.objs = s.objs := by cases hd <;> rfl
/-- Values move by a Commit or an Acquire that answers true, and by nothing else. -/
theorem moves_none (iv : Inv s m) (hd : Do s m o s' m' e d n) (h12 : ¬ (o.kind = 12 ∧ d = true)) (h9 : ¬ (o.kind = 9 ∧ d = true)) {i : Nat} (hi : i < s.objs.length) : s'.value m' i = s.value m i := by
  obtain ⟨hat, hav, how, hnw, hol, hnv⟩ := iv.stand hi
  obtain ⟨κ, k1, k2⟩ := iv.kap
  cases hd with
  | idle _ => rfl
  | no _ _ _ _ _ => rfl
  | att hk hr =>
    have hm : ∀ c, c < m.cells.length → ((m.make 1).make 0).val c = m.val c := fun c hc => by rw [Mm.val_make, Mm.val_make, if_neg (by rw [Mm.len_make]; omega), if_neg (by omega)]
    have ea : (s.beg o.a o.b o.c m.cells.length).att (s.lo (s.at_ m i)).owner = s.att (s.lo (s.at_ m i)).owner := by
      have : (s.beg o.a o.b o.c m.cells.length).att (s.lo (s.at_ m i)).owner = if (s.lo (s.at_ m i)).owner < s.atts.length then s.att (s.lo (s.at_ m i)).owner else if (s.lo (s.at_ m i)).owner = s.atts.length then ⟨o.a, o.b, o.c, m.cells.length, m.cells.length + 1⟩ else at0 := att_app
      rw [this, if_pos how]
    exact value_same rfl (hm _ (iv.co i hi)) rfl ea (hm _ (iv.ca_ _ how).1) rfl
  | mk hk x y _ _ _ hx hy hC hr =>
    have el : (s.lay x y (s.vl y)).lo (s.at_ m i) = s.lo (s.at_ m i) := by
      have : (s.lay x y (s.vl y)).lo (s.at_ m i) = if s.at_ m i < s.locs.length then s.lo (s.at_ m i) else if s.at_ m i = s.locs.length then ⟨x, y, s.vals.length, false⟩ else lo0 := lo_app
      rw [this, if_pos hat]
    exact value_same rfl rfl el rfl rfl (vl_app hnv)
  | put hk x _ hx ho hC =>
    refine value_same rfl rfl rfl rfl rfl (vl_put ?_)
    intro e
    unfold Ws.now at e
    have hC' := isC_not.1 hC
    split at e
    · next hc =>
      rw [hnw] at e
      rw [e] at hc
      exact hC' (isC_iff.1 hc)
    · have := iv.old _ hat
      rw [e] at this
      exact hC' this
  | load _ x _ _ _ => exact value_same rfl (m.val_load _ _) rfl rfl (m.val_load _ _) rfl
  | acq hk x y z _ _ _ hx _ hz hU hC _ =>
    have hv : ¬ m.val (s.ob x) = (y : Int) := fun q => h9 ⟨hk, decide_eq_true q⟩
    have hsw : ∀ c, (m.swap (s.ob x) (y : Int) (z : Int)).val c = m.val c := fun c => by rw [m.val_swap, if_neg (fun q => hv q.2.2)]
    have hus : s.use z (decide (m.val (s.ob x) = (y : Int))) = s := by rw [decide_eq_false hv]; exact use_false hU
    rw [hus]
    exact value_same rfl (hsw _) rfl rfl (hsw _) rfl
  | stat _ x _ _ _ => exact value_same rfl (m.val_load _ _) rfl rfl (m.val_load _ _) rfl
  | fin sv hk x _ h1 hx _ =>
    have hob : (m.swap (s.att x).status 1 sv).val (s.ob i) = m.val (s.ob i) := by
      rw [m.val_swap, if_neg]
      rintro ⟨e, _, _⟩
      have := k2 i hi
      rw [e, (k1 x hx).1] at this; omega
    by_cases hd1 : m.val (s.att x).status = 1
    · have h3 : sv = 3 := by
        rcases hk with ⟨_, q⟩ | ⟨q, _⟩
        · exact q
        · exact absurd ⟨q, decide_eq_true hd1⟩ h12
      subst h3
      by_cases ho : (s.lo (s.at_ m i)).owner = x
      · -- neither before nor behind committed
        have e1 : s.at_ (m.swap (s.att x).status 1 3) i = s.at_ m i := by unfold Ws.at_; rw [show (ca (m.swap (s.att x).status 1 3).cells (s.ob i)).2 = (ca m.cells (s.ob i)).2 from hob]
        have c0 : s.isC m (s.lo (s.at_ m i)).owner = false := isC_not.2 (by rw [ho, hd1]; decide)
        have c1 : s.isC (m.swap (s.att x).status 1 3) (s.lo (s.at_ m i)).owner = false := isC_not.2 (by rw [ho, m.val_swap, if_pos ⟨rfl, (iv.ca_ x hx).1, hd1⟩]; decide)
        unfold Ws.value Ws.now
        rw [e1, c0, c1]
      · refine value_same rfl hob rfl rfl ?_ rfl
        rw [m.val_swap, if_neg]
        rintro ⟨e, _, _⟩
        have := (k1 _ how).1
        rw [e, (k1 x hx).1] at this
        exact ho (by omega)
    · have hsw : ∀ c, (m.swap (s.att x).status 1 sv).val c = m.val c := fun c => by rw [m.val_swap, if_neg (fun q => hd1 q.2.2)]
      exact value_same rfl (hsw _) rfl rfl (hsw _) rfl
  | flag _ x _ _ _ => exact value_same rfl (m.val_load _ _) rfl rfl (m.val_load _ _) rfl
  | mark hk x p q _ _ hx _ _ =>
    have hsw : ∀ c, κ c ≠ 3 * x + 1 → (m.swap (s.att x).flag p q).val c = m.val c := fun c hc => by
      rw [m.val_swap, if_neg]
      rintro ⟨e, _, _⟩
      exact hc (by rw [e]; exact (k1 x hx).2)
    exact value_same rfl (hsw _ (by rw [k2 i hi]; omega)) rfl rfl (hsw _ (by rw [(k1 _ how).1]; omega)) rfl
/-- By a Commit. -/
theorem moves_commit (iv : Inv s m) (hd : Do s m o s' m' e true n) (hk : o.kind = 12) : ∃ x : Nat, o.a = (x : Int) ∧ ∀ i, i < s.objs.length → ((s'.lo (s'.at_ m' i)).owner = x → s'.value m' i = s'.vl (s'.lo (s'.at_ m' i)).new) ∧ ((s'.lo (s'.at_ m' i)).owner ≠ x → s'.value m' i = s.value m i) := by
  obtain ⟨κ, k1, k2⟩ := iv.kap
  generalize hdt : true = dd at hd
  cases hd with
  | idle h => cases hdt
  | no _ _ _ _ _ => cases hdt
  | att h _ => cases hdt
  | mk h _ _ _ _ _ _ _ _ _ => cases hdt
  | put h _ _ _ _ _ => cases hdt
  | load h _ _ _ _ => cases hdt
  | acq h _ _ _ _ _ _ _ _ _ _ _ _ => exact absurd hk (by omega)
  | stat h _ _ _ _ => cases hdt
  | fin sv h x ex h1 hx hf =>
    have hd1 : m.val (s.att x).status = 1 := of_decide_eq_true hdt.symm
    obtain rfl : sv = 2 := by omega
    refine ⟨x, ex, fun i hi => ?_⟩
    obtain ⟨hat, hav, how, hnw, hol, hnv⟩ := iv.stand hi
    have hob : (m.swap (s.att x).status 1 2).val (s.ob i) = m.val (s.ob i) := by
      rw [m.val_swap, if_neg]
      rintro ⟨e, _, _⟩
      have := k2 i hi
      rw [e, (k1 x hx).1] at this; omega
    have e1 : s.at_ (m.swap (s.att x).status 1 2) i = s.at_ m i := by unfold Ws.at_; rw [show (ca (m.swap (s.att x).status 1 2).cells (s.ob i)).2 = (ca m.cells (s.ob i)).2 from hob]
    rw [e1]
    refine ⟨fun ho => ?_, fun ho => ?_⟩
    · have c1 : s.isC (m.swap (s.att x).status 1 2) (s.lo (s.at_ m i)).owner = true := isC_iff.2 (by rw [ho, m.val_swap, if_pos ⟨rfl, (iv.ca_ x hx).1, hd1⟩])
      unfold Ws.value Ws.now
      rw [e1, c1]; rfl
    · refine value_same rfl hob rfl rfl ?_ rfl
      rw [m.val_swap, if_neg]
      rintro ⟨e, _, _⟩
      have := (k1 _ how).1
      rw [e, (k1 x hx).1] at this
      exact ho (by omega)
  | flag h _ _ _ _ => exact absurd hk (by omega)
  | mark h _ _ _ _ _ _ _ _ => exact absurd hk (by omega)
/-- By an Acquire. -/
theorem moves_acquire (iv : Inv s m) (hd : Do s m o s' m' e true n) (hk : o.kind = 9) : ∃ x z : Nat, o.a = (x : Int) ∧ o.c = (z : Int) ∧ ∀ i, i < s.objs.length → (i = x → s'.at_ m' i = z ∧ s'.value m' i = s'.vl (s'.lo (s'.at_ m' i)).old) ∧ (i ≠ x → s'.value m' i = s.value m i) := by
  obtain ⟨κ, k1, k2⟩ := iv.kap
  generalize hdt : true = dd at hd
  cases hd with
  | idle h => cases hdt
  | no _ _ _ _ _ => cases hdt
  | att h _ => cases hdt
  | mk h _ _ _ _ _ _ _ _ _ => cases hdt
  | put h _ _ _ _ _ => cases hdt
  | load h _ _ _ _ => cases hdt
  | acq h x y z ex ey ez hx hy hz hU hC hf =>
    have hv : m.val (s.ob x) = (y : Int) := of_decide_eq_true hdt.symm
    refine ⟨x, z, ex, ez, fun i hi => ?_⟩
    obtain ⟨hat, hav, how, hnw, hol, hnv⟩ := iv.stand hi
    have hst : ∀ a, a < s.atts.length → (m.swap (s.ob x) (y : Int) (z : Int)).val (s.att a).status = m.val (s.att a).status := fun a ha => by
      rw [m.val_swap, if_neg]
      rintro ⟨e, _, _⟩
      have := (k1 a ha).1
      rw [e, k2 x hx] at this; omega
    have eo : ∀ b k, ((s.use z b).lo k).owner = (s.lo k).owner ∧ ((s.use z b).lo k).old = (s.lo k).old ∧ ((s.use z b).lo k).new = (s.lo k).new := fun b k => by
      rw [lo_use]
      split
      · next q => rw [q.1]; exact ⟨rfl, rfl, rfl⟩
      · exact ⟨rfl, rfl, rfl⟩
    refine ⟨fun hix => ?_, fun hix => ?_⟩
    · subst hix
      have e1 : (s.use z (decide (m.val (s.ob i) = (y : Int)))).at_ (m.swap (s.ob i) (y : Int) (z : Int)) i = z := at_of (s := s.use z (decide (m.val (s.ob i) = (y : Int)))) (by show (m.swap (s.ob i) (y : Int) (z : Int)).val (s.ob i) = _; rw [m.val_swap, if_pos ⟨rfl, iv.co i hx, hv⟩])
      refine ⟨e1, ?_⟩
      have c1 : (s.use z (decide (m.val (s.ob i) = (y : Int)))).isC (m.swap (s.ob i) (y : Int) (z : Int)) (s.lo z).owner = false := isC_not.2 (by
        show (m.swap (s.ob i) (y : Int) (z : Int)).val (s.att (s.lo z).owner).status ≠ 2
        rw [hst _ (iv.lo z hz).2.2]; exact isC_not.1 hC)
      unfold Ws.value Ws.now
      rw [e1, (eo _ z).1, c1]; rfl
    · have hob : (m.swap (s.ob x) (y : Int) (z : Int)).val (s.ob i) = m.val (s.ob i) := by
        rw [m.val_swap, if_neg]
        rintro ⟨e, _, _⟩
        have := k2 i hi
        rw [e, k2 x hx] at this
        exact hix (by omega)
      have e1 : (s.use z (decide (m.val (s.ob x) = (y : Int)))).at_ (m.swap (s.ob x) (y : Int) (z : Int)) i = s.at_ m i := by
        show (ca (m.swap (s.ob x) (y : Int) (z : Int)).cells (s.ob i)).2.toNat = (ca m.cells (s.ob i)).2.toNat
        rw [show (ca (m.swap (s.ob x) (y : Int) (z : Int)).cells (s.ob i)).2 = (ca m.cells (s.ob i)).2 from hob]
      have c1 : (s.use z (decide (m.val (s.ob x) = (y : Int)))).isC (m.swap (s.ob x) (y : Int) (z : Int)) (s.lo (s.at_ m i)).owner = s.isC m (s.lo (s.at_ m i)).owner := by
        show decide ((m.swap (s.ob x) (y : Int) (z : Int)).val (s.att (s.lo (s.at_ m i)).owner).status = 2) = decide (m.val (s.att (s.lo (s.at_ m i)).owner).status = 2)
        rw [hst _ how]
      unfold Ws.value Ws.now
      rw [e1, (eo _ _).1, (eo _ _).2.1, (eo _ _).2.2, c1]; rfl
  | stat h _ _ _ _ => cases hdt
  | fin _ h _ _ _ _ _ => exact absurd h (by omega)
  | flag h _ _ _ _ => exact absurd hk (by omega)
  | mark h _ _ _ _ _ _ _ _ => exact absurd hk (by omega)
end
end Go.Proofs.Ytdeiochjkbogpaa
