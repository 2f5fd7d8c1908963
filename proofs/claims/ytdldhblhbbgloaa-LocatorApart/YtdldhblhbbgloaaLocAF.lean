import Derived.Test.YtdldhblhbbgloaaLocAE
namespace Go.Proofs.Ytdldhblhbbgloaa
open Go.RowKit
/-- The cells that a world calls its own. -/
def OwnC (s : Ws) (c : Nat) : Prop := (∃ i, i < s.atts.length ∧ (c = (s.att i).status ∨ c = (s.att i).flag)) ∨ ∃ i, i < s.objs.length ∧ c = s.ob i
section
variable {s s' t : Ws} {m m' l l' : Mm} {o : Oq} {e n : Int} {d : Bool}
theorem OwnC.st {i : Nat} (hi : i < s.atts.length) : OwnC s (s.att i).status := .inl ⟨i, hi, .inl rfl⟩
theorem OwnC.fl {i : Nat} (hi : i < s.atts.length) : OwnC s (s.att i).flag := .inl ⟨i, hi, .inr rfl⟩
theorem OwnC.ob {i : Nat} (hi : i < s.objs.length) : OwnC s (s.ob i) := .inr ⟨i, hi, rfl⟩
theorem Inv.own (h : Inv s m) {c : Nat} (hc : OwnC s c) : c < m.cells.length := by
  rcases hc with ⟨i, hi, e | e⟩ | ⟨i, hi, e⟩
  · rw [e]; exact (h.ca_ i hi).1
  · rw [e]; exact (h.ca_ i hi).2
  · rw [e]; exact h.co i hi
/-- What others do to their cells leaves a world be. -/
theorem Inv.frame (h : Inv s m) (hl : m.cells.length ≤ m'.cells.length) (hv : ∀ c, OwnC s c → m'.val c = m.val c) : Inv s m' :=
  ⟨h.vl, h.lo, fun i hi => ⟨Nat.lt_of_lt_of_le (h.ca_ i hi).1 hl, Nat.lt_of_lt_of_le (h.ca_ i hi).2 hl⟩, fun i hi => Nat.lt_of_lt_of_le (h.co i hi) hl,
   fun i hi => by rw [hv _ (OwnC.ob hi)]; exact h.at_ i hi, h.na, h.nl, h.no, h.a1, h.kap, by rw [hv _ (OwnC.st h.a1)]; exact h.gen,
   fun i hi => by rw [hv _ (OwnC.st (h.lo _ (h.lo i hi).2.1).2.2)]; exact h.old i hi⟩
theorem Sim.frame (h : Sim s m t l) (hv : ∀ c, OwnC t c → l'.val c = l.val c) : Sim s m t l' :=
  ⟨h.no, h.na, h.lo, h.vl, fun i hi => by rw [hv _ (OwnC.ob (by rw [h.no]; exact hi))]; exact h.ob i hi, fun i hi => by rw [hv _ (OwnC.st (by rw [h.na]; exact hi))]; exact h.st i hi, fun i hi => by rw [hv _ (OwnC.fl (by rw [h.na]; exact hi))]; exact h.fl i hi⟩
theorem Do.frame (hd : Do s m o s' m' e d n) (iv : Inv s m) : (∀ c, c < m.cells.length → ¬ OwnC s c → m'.val c = m.val c) ∧ m.cells.length ≤ m'.cells.length ∧ m'.cells.length ≤ m.cells.length + 2 ∧ (∀ c, OwnC s' c → OwnC s c ∨ m.cells.length ≤ c) ∧ s.atts.length ≤ s'.atts.length ∧ s'.atts.length ≤ s.atts.length + 1 ∧ s'.locs.length ≤ s.locs.length + 1 := by
  have _ := iv
  have sw : ∀ (a : Nat) (x y : Int), OwnC s a → (∀ c, c < m.cells.length → ¬ OwnC s c → (m.swap a x y).val c = m.val c) := fun a x y ha c _ hc => by
    rw [m.val_swap, if_neg]
    rintro ⟨q, _, _⟩
    exact hc (by rw [q]; exact ha)
  have ls : ∀ (a : Nat) (x y : Int), (m.swap a x y).cells.length = m.cells.length := fun a x y => m.len_swap a x y
  cases hd with
  | idle _ => exact ⟨fun _ _ _ => rfl, Nat.le_refl _, by omega, fun _ h => .inl h, Nat.le_refl _, by omega, by omega⟩
  | no _ _ _ _ _ => exact ⟨fun _ _ _ => rfl, Nat.le_refl _, by omega, fun _ h => .inl h, Nat.le_refl _, by omega, by omega⟩
  | att hk hr =>
    have ea : ∀ i, (s.beg o.a o.b o.c m.cells.length).att i = if i < s.atts.length then s.att i else if i = s.atts.length then ⟨o.a, o.b, o.c, m.cells.length, m.cells.length + 1⟩ else at0 := fun i => att_app
    refine ⟨fun c hc _ => by rw [Mm.val_make, Mm.val_make, if_neg (by rw [Mm.len_make]; omega), if_neg (by omega)], by rw [Mm.len_make, Mm.len_make]; omega, by rw [Mm.len_make, Mm.len_make]; omega, fun c h => ?_, by simp [Ws.beg], by simp [Ws.beg], by simp [Ws.beg]⟩
    rcases h with ⟨i, hi, h⟩ | ⟨i, hi, h⟩
    · rw [ea] at h
      by_cases q : i < s.atts.length
      · rw [if_pos q] at h; exact .inl (.inl ⟨i, q, h⟩)
      · have : i = s.atts.length := by have : i < s.atts.length + 1 := by simpa [Ws.beg] using hi
                                       omega
        rw [if_neg q, if_pos this] at h
        right
        rcases h with h | h
        · have h' : c = m.cells.length := h; omega
        · have h' : c = m.cells.length + 1 := h; omega
    · exact .inl (.inr ⟨i, hi, h⟩)
  | mk _ x y _ _ _ _ _ _ _ => exact ⟨fun _ _ _ => rfl, Nat.le_refl _, by omega, fun _ h => .inl h, Nat.le_refl _, by simp [Ws.lay], by simp [Ws.lay]⟩
  | put _ x _ _ _ _ => exact ⟨fun _ _ _ => rfl, Nat.le_refl _, by omega, fun _ h => .inl h, Nat.le_refl _, by simp [Ws.put], by simp [Ws.put]⟩
  | load _ x _ _ _ => exact ⟨fun c _ _ => m.val_load _ c, by rw [m.len_load]; exact Nat.le_refl _, by rw [m.len_load]; omega, fun _ h => .inl h, Nat.le_refl _, by omega, by omega⟩
  | acq _ x y z _ _ _ hx _ _ _ _ _ => exact ⟨sw _ _ _ (OwnC.ob hx), by rw [ls]; exact Nat.le_refl _, by rw [ls]; omega, fun _ h => .inl h, Nat.le_refl _, by simp [Ws.use], by simp [Ws.use]⟩
  | stat _ x _ _ _ => exact ⟨fun c _ _ => m.val_load _ c, by rw [m.len_load]; exact Nat.le_refl _, by rw [m.len_load]; omega, fun _ h => .inl h, Nat.le_refl _, by omega, by omega⟩
  | fin sv _ x _ _ hx _ => exact ⟨sw _ _ _ (OwnC.st hx), by rw [ls]; exact Nat.le_refl _, by rw [ls]; omega, fun _ h => .inl h, Nat.le_refl _, by omega, by omega⟩
  | flag _ x _ _ _ => exact ⟨fun c _ _ => m.val_load _ c, by rw [m.len_load]; exact Nat.le_refl _, by rw [m.len_load]; omega, fun _ h => .inl h, Nat.le_refl _, by omega, by omega⟩
  | mark _ x p q _ _ hx _ _ => exact ⟨sw _ _ _ (OwnC.fl hx), by rw [ls]; exact Nat.le_refl _, by rw [ls]; omega, fun _ h => .inl h, Nat.le_refl _, by omega, by omega⟩
/-- Two worlds over one memory, apart. -/
def Apt (s t : Ws) : Prop := ∀ c, OwnC s c → ¬ OwnC t c
theorem Apt.step (h : Apt s t) (it : Inv t m) (is : Inv s m) (hd : Do s m o s' m' e d n) : Apt s' t ∧ Inv t m' ∧ ∀ c, OwnC t c → m'.val c = m.val c := by
  obtain ⟨h1, h2, _, h4, _⟩ := hd.frame is
  have hv : ∀ c, OwnC t c → m'.val c = m.val c := fun c hc => h1 c (it.own hc) (fun q => h c q hc)
  exact ⟨fun c q hc => (h4 c q).elim (fun q => h c q hc) (fun q => by have := it.own hc; omega), it.frame h2 hv, hv⟩
theorem Apt.symm (h : Apt s t) : Apt t s := fun c q hc => h c hc q
end
end Go.Proofs.Ytdldhblhbbgloaa
