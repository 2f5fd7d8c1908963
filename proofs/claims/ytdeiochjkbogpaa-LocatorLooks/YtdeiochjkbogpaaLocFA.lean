import Derived.Test.YtdeiochjkbogpaaLocT0
import Derived.Test.YtdeiochjkbogpaaLocOpen
namespace Go.Proofs.Ytdeiochjkbogpaa
open Go.RowKit

/-- What is said of each attempt. -/
def Sd (s : Ws) (m : Mm) (sd : List Int) : Prop := sd.length = s.atts.length ∧ ∀ x, x < s.atts.length → sd[x]? = some (m.val (s.att x).status)
def ic (x : Int) : List Value := [.int .i64 x]
theorem ic_len (x : Int) : (ic x).length = 1 := rfl
section
variable {s s' : Ws} {m m' : Mm} {o : Oq} {e n : Int} {d : Bool} {sd : List Int}
theorem Sd.mono (h : Sd s m sd) (ha : s'.atts = s.atts) (hv : ∀ x, x < s.atts.length → m'.val (s.att x).status = m.val (s.att x).status) : Sd s' m' sd := by
  have e : ∀ x, s'.att x = s.att x := fun x => by unfold Ws.att; rw [ha]
  refine ⟨by rw [ha]; exact h.1, fun x hx => ?_⟩
  rw [ha] at hx
  rw [e x, hv x hx]; exact h.2 x hx
theorem Sd.open (h : Sd s m sd) {k k' : Nat} {m1 : Mm} (ho : Opn m k o m1 k') : Sd s m1 sd := by
  rcases ho with ⟨_, rfl, _⟩ | ⟨_, rfl, _⟩
  · exact h
  · exact h
theorem Opn.le {k k' : Nat} {m1 : Mm} (ho : Opn m k o m1 k') : k' ≤ k + 1 := by rcases ho with ⟨_, _, rfl⟩ | ⟨_, _, rfl⟩ <;> omega
theorem Opn.inv {k k' : Nat} {m1 : Mm} (ho : Opn m k o m1 k') (h : Inv s m) : Inv s m1 := by
  rcases ho with ⟨_, rfl, _⟩ | ⟨_, rfl, _⟩
  · exact h.mem _ _
  · exact h
/-- Of a step that neither makes nor ends an attempt. -/
theorem Sd.other (h : Sd s m sd) (i : Inv s m) (hd : Do s m o s' m' e d n) (h1 : o.kind ≠ 1) (h2 : o.kind ≠ 11) (h3 : o.kind ≠ 12) : Sd s' m' sd := by
  obtain ⟨κ, k1, k2⟩ := i.kap
  cases hd with
  | idle _ => exact h
  | no _ _ _ _ _ => exact h
  | att hk _ => exact absurd hk h1
  | mk _ x y _ _ _ hx hy hC hr => exact h.mono rfl (fun _ _ => rfl)
  | put _ x _ _ _ _ => exact h.mono rfl (fun _ _ => rfl)
  | load _ x _ _ _ => exact h.mono rfl (fun _ _ => m.val_load _ _)
  | acq _ x y z _ _ _ hx _ hz hU _ _ => exact h.mono rfl (fun a ha => by
      rw [m.val_swap, if_neg]
      rintro ⟨e, _, _⟩
      have := (k1 a ha).1
      rw [e, k2 x hx] at this; omega)
  | stat _ x _ _ _ => exact h.mono rfl (fun _ _ => m.val_load _ _)
  | fin sv hk x _ _ hx _ => exact absurd hk (fun q => q.elim (fun q => h2 q.1) (fun q => h3 q.1))
  | flag _ x _ _ _ => exact h.mono rfl (fun _ _ => m.val_load _ _)
  | mark _ x p q _ _ hx _ _ => exact h.mono rfl (fun a ha => by
      rw [m.val_swap, if_neg]
      rintro ⟨e, _, _⟩
      have := (k1 a ha).1
      rw [e, (k1 x hx).2] at this; omega)
/-- Of one that is refused. -/
theorem Sd.refused (h : Sd s m sd) (hd : Do s m o s' m' e d n) (he : e ≠ 0) : Sd s' m' sd := by
  cases hd with
  | no _ _ _ _ _ => exact h
  | _ => exact absurd rfl he
/-- An attempt is made. -/
theorem Sd.made (h : Sd s m sd) (i : Inv s m) (hd : Do s m o s' m' e d n) (hk : o.kind = 1) (he : e = 0) : n = (sd.length : Int) ∧ sd.length < 16384 ∧ Sd s' m' (sd ++ [1]) := by
  cases hd with
  | idle h => exact absurd (.inl hk) h
  | no _ h _ _ _ => exact absurd he h
  | att _ hr =>
    simp [Ws.roomA] at hr
    refine ⟨by rw [h.1], by rw [h.1]; exact hr.1, by simp [Ws.beg, h.1], fun x hx => ?_⟩
    have ea : (s.beg o.a o.b o.c m.cells.length).att x = if x < s.atts.length then s.att x else if x = s.atts.length then ⟨o.a, o.b, o.c, m.cells.length, m.cells.length + 1⟩ else at0 := att_app
    have lx : x < s.atts.length + 1 := by simpa [Ws.beg] using hx
    rw [ea]
    by_cases hl : x < s.atts.length
    · rw [if_pos hl, List.getElem?_append_left (by rw [h.1]; exact hl), h.2 x hl, Mm.val_make, Mm.val_make]
      have := (i.ca_ x hl).1
      rw [if_neg (by rw [Mm.len_make]; omega), if_neg (by omega)]
    · have : x = s.atts.length := by omega
      rw [if_neg hl, if_pos this, this, ← h.1]
      rw [List.getElem?_append_right (Nat.le_refl _)]
      show _ = some (((m.make 1).make 0).val m.cells.length)
      rw [Mm.val_make, Mm.val_make, if_neg (by rw [Mm.len_make]; omega), if_pos rfl]
      simp
  | mk h _ _ _ _ _ _ _ _ _ => rw [hk] at h; cases h
  | put h _ _ _ _ _ => rw [hk] at h; cases h
  | load h _ _ _ _ => rw [hk] at h; cases h
  | acq h _ _ _ _ _ _ _ _ _ _ _ _ => rw [hk] at h; cases h
  | stat h _ _ _ _ => rw [hk] at h; cases h
  | fin _ h _ _ _ _ _ => rw [hk] at h; exact absurd h (by omega)
  | flag h _ _ _ _ => rw [hk] at h; cases h
  | mark h _ _ _ _ _ _ _ _ => rw [hk] at h; cases h
/-- An attempt is ended, or was. -/
theorem Sd.ended (h : Sd s m sd) (i : Inv s m) (hd : Do s m o s' m' e d n) {sv : Int} (hk : o.kind = 11 ∧ sv = 3 ∨ o.kind = 12 ∧ sv = 2) (he : e = 0) : ∃ x : Nat, o.a = x ∧ 1 ≤ x ∧ x < sd.length ∧ d = decide (sd.getD x 0 = 1) ∧ (d = true → Sd s' m' (sd.set x sv)) ∧ (d = false → Sd s' m' sd) := by
  obtain ⟨κ, k1, k2⟩ := i.kap
  cases hd with
  | idle h => exact absurd (by omega) h
  | no _ h _ _ _ => exact absurd he h
  | att h _ => exact absurd hk (by omega)
  | mk h _ _ _ _ _ _ _ _ _ => exact absurd hk (by omega)
  | put h _ _ _ _ _ => exact absurd hk (by omega)
  | load h _ _ _ _ => exact absurd hk (by omega)
  | acq h _ _ _ _ _ _ _ _ _ _ _ _ => exact absurd hk (by omega)
  | stat h _ _ _ _ => exact absurd hk (by omega)
  | fin sv2 h2 x ex h1 hx hf =>
    obtain rfl : sv2 = sv := by omega
    have e0 : sd.getD x 0 = m.val (s.att x).status := by
      have := h.2 x hx
      rw [getD_get (d := 0) (by rw [h.1]; exact hx)] at this
      injection this
    refine ⟨x, ex, h1, by rw [h.1]; exact hx, by rw [e0], fun hd => ⟨by rw [List.length_set]; exact h.1, fun y hy => ?_⟩, fun hd => h.mono rfl (fun y hy => ?_)⟩
    · have hd' : m.val (s.att x).status = 1 := of_decide_eq_true hd
      rw [m.val_swap, List.getElem?_set]
      by_cases exy : x = y
      · subst exy; rw [if_pos rfl, if_pos (by rw [h.1]; exact hx), if_pos ⟨rfl, (i.ca_ x hx).1, hd'⟩]
      · rw [if_neg exy, if_neg]
        · exact h.2 y hy
        · rintro ⟨e, _, _⟩
          have := (k1 y hy).1
          rw [e, (k1 x hx).1] at this; omega
    · have hd' : ¬ m.val (s.att x).status = 1 := of_decide_eq_false hd
      rw [m.val_swap, if_neg (fun q => hd' q.2.2)]
  | flag h _ _ _ _ => exact absurd hk (by omega)
  | mark h _ _ _ _ _ _ _ _ => exact absurd hk (by omega)
/-- A status is told. -/
theorem Sd.told (h : Sd s m sd) (hd : Do s m o s' m' e d n) (hk : o.kind = 10) (he : e = 0) : ∃ x : Nat, o.a = x ∧ x < sd.length ∧ n = sd.getD x 0 := by
  cases hd with
  | idle h => exact absurd (by omega) h
  | no _ h _ _ _ => exact absurd he h
  | att h _ => exact absurd hk (by omega)
  | mk h _ _ _ _ _ _ _ _ _ => exact absurd hk (by omega)
  | put h _ _ _ _ _ => exact absurd hk (by omega)
  | load h _ _ _ _ => exact absurd hk (by omega)
  | acq h _ _ _ _ _ _ _ _ _ _ _ _ => exact absurd hk (by omega)
  | stat _ x ex hx hf =>
    refine ⟨x, ex, by rw [h.1]; exact hx, ?_⟩
    have := h.2 x hx
    rw [getD_get (d := 0) (by rw [h.1]; exact hx)] at this
    injection this with e
    exact e.symm
  | fin _ h _ _ _ _ _ => exact absurd hk (by omega)
  | flag h _ _ _ _ => exact absurd hk (by omega)
  | mark h _ _ _ _ _ _ _ _ => exact absurd hk (by omega)
/-- A status is told wherever there is one. -/
theorem Do.tells (hd : Do s m o s' m' e d n) (hk : o.kind = 10) (ha : 0 ≤ o.a ∧ o.a < (s.atts.length : Int)) (hf : m.free = true) : e = 0 := by
  cases hd with
  | no e he h hs _ =>
    rcases hs hk with h | h
    · omega
    · rw [hf] at h; cases h
  | _ => rfl
end
end Go.Proofs.Ytdeiochjkbogpaa
