import Derived.Test.YtdmfkepnopppaaaGreatDoorPhD
namespace Go.Proofs.YtdmfkepnopppaaaGreatDoor
open Go.RowKit
attribute [local go_sem] Oper.semAt_some run_store_nf run_store_f
/-- The fields, word by word, as the slots say. -/
def fills : Ins → List Int → List Pc → Option Ins
  | u, [], [] => some u
  | u, s :: ss, p :: ps => (fil u s p.t).bind (fun u' => fills u' ss ps)
  | _, _, _ => none
/-- A line's instruction. -/
def inst : List Pc → Option Ins
  | [] => none
  | p :: r => (nmd p.t).bind (fun q => fills q (slo q.code.toNat) r)
/-- Words in memory, as a slice. -/
def PCL (w : World) (a : Option Addr) (l : List Pc) : Prop := ∀ i p, l[i]? = some p → ∃ b off, a = some ⟨b, off, none⟩ ∧ ∀ j v, p.cells[j]? = some v → w.cell? ⟨b, off + i * 3 + j, none⟩ = some v
theorem PCL.keep {w w' : World} {a : Option Addr} {l : List Pc} (h : PCL w a l) (k : Keeps (fun _ => False) w w') : PCL w' a l := fun i p hi => by
  obtain ⟨b, off, e, hc⟩ := h i p hi
  exact ⟨b, off, e, fun j v hv => k.cell (hc j v hv) (fun e => e)⟩
/-- A row's own block is one of its type. -/
theorem owns_ty {w : World} {base : Nat} {e : TypeId} {size : Nat} {v : Value} {n : Nat} {xs : List Value} (h : w.ownsRow base e size v n xs) (k : Nat) (hk : v.ownBlock = some k) : base ≤ k ∧ ∃ cur x, w.heap[k]? = some (.cells cur e x) := by
  rcases h.2 with ⟨rfl, _⟩ | ⟨g, cap, cur, rfl, hb, hg, rest⟩
  · cases hk
  · cases hk; exact ⟨hb, _, _, hg⟩
/-- What reading a line may turn. -/
def IRw (w : World) (base R k : Nat) : Prop := base ≤ k ∧ (k = R ∨ ∃ cur x, w.heap[k]? = some (.cells cur 45 x))
/-- A reader in memory. -/
structure RI (w : World) (base R : Nat) (mv jv : Value) (qs : List Ins) : Prop where
  x : ∃ cv, CL w R [cv, mv, jv] ∧ w.ownsRow base 45 11 cv qs.length (icl qs) ∧ cv.ownBlock ≠ some R
  b : base ≤ R
theorem RI.keep {w w' : World} {base R : Nat} {mv jv : Value} {qs : List Ins} (h : RI w base R mv jv qs) (k : Keeps (fun _ => False) w w') : RI w' base R mv jv qs := by
  obtain ⟨⟨cv, hc, ho, hn⟩, hb⟩ := h
  exact ⟨⟨cv, hc.keep (by show 0 < 3; decide) k (fun e => e), k.owns ho (fun _ _ e => e), hn⟩, hb⟩
theorem fil_code {u u' : Ins} {s : Int} {t : ByteArray} (h : fil u s t = some u') : u'.code = u.code := by
  unfold fil at h
  split at h
  · split at h
    · cases h; rfl
    · cases h
  · split at h
    · cases ho : objO t with
      | none => rw [ho] at h; cases h
      | some x => rw [ho] at h; cases h; rfl
    · split at h
      · cases ho : src t with
        | none => rw [ho] at h; cases h
        | some x => rw [ho] at h; cases h; rfl
      · split at h
        · cases ho : src t with
          | none => rw [ho] at h; cases h
          | some x => rw [ho] at h; cases h; rfl
        · split at h
          · split at h
            · cases h; rfl
            · cases h
          · cases h
/-- How far the slots have been gone through. -/
structure Fl (q0 u : Ins) (ss : List Int) (ps : List Pc) (k : Nat) (q : Ins) : Prop where
  g : fills u (ss.drop k) (ps.drop k) = some q
  c : u.code = q0.code
theorem fills_len : ∀ (u : Ins) (ss : List Int) (ps : List Pc) (q : Ins), fills u ss ps = some q → ss.length = ps.length
  | _, [], [], _, _ => rfl
  | _, [], _ :: _, _, h => by cases h
  | _, _ :: _, [], _, h => by cases h
  | u, s :: ss, p :: ps, q, h => by
    unfold fills at h
    obtain ⟨u', _, h⟩ := Option.bind_eq_some_iff.1 h
    rw [List.length_cons, List.length_cons, fills_len u' ss ps q h]
theorem Fl.next {q0 u q : Ins} {ss : List Int} {ps : List Pc} {k : Nat} {s : Int} {p : Pc} (h : Fl q0 u ss ps k q) (hs : ss[k]? = some s) (hp : ps[k]? = some p) : ∃ u', fil u s p.t = some u' ∧ Fl q0 u' ss ps (k + 1) q := by
  have e1 : ss.drop k = s :: ss.drop (k + 1) := by
    obtain ⟨hk, e⟩ := List.getElem?_eq_some_iff.1 hs
    rw [List.drop_eq_getElem_cons hk, e]
  have e2 : ps.drop k = p :: ps.drop (k + 1) := by
    obtain ⟨hk, e⟩ := List.getElem?_eq_some_iff.1 hp
    rw [List.drop_eq_getElem_cons hk, e]
  have g := h.g
  rw [e1, e2] at g
  unfold fills at g
  obtain ⟨u', h1, h2⟩ := Option.bind_eq_some_iff.1 g
  exact ⟨u', h1, h2, (fil_code h1).trans h.c⟩
theorem Fl.done {q0 u q : Ins} {ss : List Int} {ps : List Pc} {k : Nat} (h : Fl q0 u ss ps k q) (hs : ss.length = k) (hp : ps.length = k) : u = q := by
  have g := h.g
  rw [List.drop_eq_nil_of_le (by omega), List.drop_eq_nil_of_le (by omega)] at g
  exact Option.some.inj g
theorem nmd_code {t : ByteArray} {q : Ins} (h : nmd t = some q) : ∃ c : Nat, q.code = (c : Int) ∧ 1 ≤ c ∧ c ≤ 10 := by
  unfold nmd at h
  split at h
  · cases h; exact ⟨6, rfl, by omega, by omega⟩
  · split at h
    · rename_i hn
      cases h
      refine ⟨_, rfl, by omega, ?_⟩
      have : ∀ n i, look shT t i n ≠ 0 → look shT t i n < i + n := by
        intro n
        induction n with
        | zero => intro i h; exact absurd rfl h
        | succ n ih =>
          intro i h
          cases hm : ((shT i).toList == t.toList) with
          | true => rw [look_hit _ _ _ _ hm]; omega
          | false =>
            rw [look_miss _ _ _ _ hm] at h ⊢
            have := ih (i + 1) h
            omega
      have := this 10 1 hn
      omega
    · cases h
end Go.Proofs.YtdmfkepnopppaaaGreatDoor
