import Derived.Test.YtfbbllokpikbiabOqHMath
import Derived.Test.YtfbbllokpikbiabKeepSt
import Derived.Test.YtfbbllokpikbiabRows
import Derived.Maps.OwnSet
import Derived.Maps.OwnOps
import Derived.Deep.AppendLies
import Derived.Deep.RegionHeld3
import Derived.Deep.RegionLaw
import Derived.Deep.LoopGhost
import Derived.BigRegion
import Derived.BigQuiet
namespace Go.Proofs.Ytfbbllokpikbiab
open Go.RowKit Go.Maps

/-- An item as Go's value. -/
def vi (x : It) : Value := .agg #[.int .i64 x.1, .int .i64 x.2]
/-- Items as cells. -/
def flat (xs : List It) : List Value := xs.flatMap fun x => [.int .i64 x.1, .int .i64 x.2]

theorem flat_nil : flat [] = [] := rfl
theorem flat_cons (x : It) (xs : List It) : flat (x :: xs) = .int .i64 x.1 :: .int .i64 x.2 :: flat xs := rfl
theorem flat_append (xs ys : List It) : flat (xs ++ ys) = flat xs ++ flat ys := by simp [flat]
theorem length_flat : ∀ xs : List It, (flat xs).length = xs.length * 2
  | [] => rfl
  | x :: xs => by simp [flat_cons, length_flat xs]; omega
theorem flat_get0 : ∀ (xs : List It) (i : Nat), i < xs.length → (flat xs)[i * 2]? = some (.int .i64 (ia xs i).1)
  | x :: xs, 0, _ => by simp [flat_cons, ia]
  | x :: xs, i + 1, h => by
    have e : (i + 1) * 2 = i * 2 + 1 + 1 := by omega
    rw [flat_cons, e, List.getElem?_cons_succ, List.getElem?_cons_succ, flat_get0 xs i (by simpa using h)]; simp [ia]
theorem flat_get1 : ∀ (xs : List It) (i : Nat), i < xs.length → (flat xs)[i * 2 + 1]? = some (.int .i64 (ia xs i).2)
  | x :: xs, 0, _ => by simp [flat_cons, ia]
  | x :: xs, i + 1, h => by
    have e : (i + 1) * 2 + 1 = i * 2 + 1 + 1 + 1 := by omega
    rw [flat_cons, e, List.getElem?_cons_succ, List.getElem?_cons_succ, flat_get1 xs i (by simpa using h)]; simp [ia]
theorem flat_set : ∀ (xs : List It) (i : Nat) (x : It), i < xs.length → flat (xs.set i x) = ((flat xs).set (i * 2) (.int .i64 x.1)).set (i * 2 + 1) (.int .i64 x.2)
  | y :: xs, 0, x, _ => by simp [flat_cons]
  | y :: xs, i + 1, x, h => by
    have e : (i + 1) * 2 = i * 2 + 1 + 1 := by omega
    rw [List.set_cons_succ, flat_cons, flat_cons, e, flat_set xs i x (by simpa using h)]; simp
theorem flat_take : ∀ (xs : List It) (n : Nat), flat (xs.take n) = (flat xs).take (n * 2)
  | [], n => by simp [flat_nil]
  | x :: xs, 0 => by simp [flat_nil]
  | x :: xs, n + 1 => by
    have e : (n + 1) * 2 = n * 2 + 1 + 1 := by omega
    rw [List.take_succ_cons, flat_cons, flat_cons, e, List.take_succ_cons, List.take_succ_cons, flat_take xs n]
theorem flat_one (xs : List It) : ∀ u ∈ flat xs, u.oneCell' = true := by
  intro u hu
  simp only [flat, List.mem_flatMap] at hu
  obtain ⟨x, _, hx⟩ := hu
  simp at hx
  rcases hx with rfl | rfl <;> rfl

theorem Keeps.map {S : Nat → Prop} {a b : World} (h : Keeps S a b) {H : Type} {P : Program} {k : TypeId} {R : Value → Option (DataW H × List MemPlace)} {m n : Nat} {D : DataW H} (ho : a.ownsMap P k R m n D) (hS : ¬ S m) : b.ownsMap P k R m n D := by
  have hlt := ho.lt
  obtain ⟨es, clock, hb, F, hs, hD⟩ := ho
  exact ⟨es, clock, (h.block m hlt hS).trans hb, F, hs, hD⟩

/-! ### the map of places -/
def key (k : Int) : Lit := .int .i64 k
/-- What a map answers at a key. -/
def view (D : DataW Unit) (k : Int) : Option Int :=
  if Maps.has D (key k) then (match D.atKey (key k) (.lit (.int .i64 0)) with | .lit (.int _ v) => some v | _ => none) else none

/-- Block b is a map of s entries that answers as M. -/
def MapIs (w : World) (b s : Nat) (M : Mp) : Prop :=
  ∃ D : DataW Unit, w.ownsMap Try.prog 3 (plainElem Try.prog 3) b s D ∧ Maps.size D = s ∧ ∀ k, I64 k → view D k = M k

theorem underInt : Try.prog.underlying 3 = some (.int .i64) := by kernel_rfl
theorem underMap : Try.prog.underlying 91 = some (.map 3 3) := by kernel_rfl
theorem keyed : Keyed Try.prog 3 := int_keyed underInt
theorem zeroInt (w : World) : (zeroValue 3).run Try.prog w = .ok (.int .i64 0) w := by kernel_rfl
theorem keyInt {k : Int} (h : I64 k) : keyOf Try.prog 3 (.int .i64 k) = some (key k) := keyOf_int_mk underInt (wf_of_i64 h)

theorem own_tight {w : World} {b n : Nat} {D : DataW Unit} (h : w.ownsMap Try.prog 3 (plainElem Try.prog 3) b n D) : w.ownsMap Try.prog 3 (plainElem Try.prog 3) b (Maps.size D) D := by
  obtain ⟨es, clock, hb, F, hs, rfl⟩ := h
  exact ⟨es, clock, hb, F, by rw [Maps.size_eq, length_read]; exact Nat.le_refl _, rfl⟩

theorem key_lit (k : Int) : WideAt.IsKeyLit (key k) := by unfold key; simp [WideAt.IsKeyLit]
theorem key_ne {a b : Int} (h : a ≠ b) : key a ≠ key b := fun e => h (by simpa [key] using e)

theorem view_put {D : DataW Unit} (hD : IsMap D) {k v x : Int} : view (D.put (key k) (.lit (.int .i64 v))) x = if x = k then some v else view D x := by
  unfold view
  by_cases h : x = k
  · subst h
    rw [has_put_same hD (key_lit _), atKey_put_same hD (key_lit _)]; simp
  · rw [has_put_other (key_ne h), atKey_put_other (key_ne h), if_neg h]
theorem view_del {D : DataW Unit} {k x : Int} : view (D.del (key k)) x = if x = k then none else view D x := by
  unfold view
  by_cases h : x = k
  · subst h
    rw [has_del_same]; simp
  · rw [has_del_other (key_ne h), atKey_del_other (key_ne h), if_neg h]

theorem MapIs.keep {w w' : World} {b s : Nat} {M : Mp} (h : MapIs w b s M) {S : Nat → Prop} (hk : Keeps S w w') (hS : ¬ S b) : MapIs w' b s M := by
  obtain ⟨D, ho, hs, hv⟩ := h
  exact ⟨D, hk.map ho hS, hs, hv⟩
theorem MapIs.lt {w : World} {b s : Nat} {M : Mp} (h : MapIs w b s M) : b < w.heap.size := by
  obtain ⟨D, ho, _⟩ := h; exact ho.lt
/-- How many entries behind a store. -/
def nx (M : Mp) (s : Nat) (k : Int) : Nat := if M k = none then s + 1 else s
theorem nx_old {M : Mp} {s : Nat} {k : Int} (h : M k ≠ none) : nx M s k = s := if_neg h
theorem nx_new {M : Mp} {s : Nat} {k : Int} (h : M k = none) : nx M s k = s + 1 := if_pos h
theorem MapIs.store {w : World} {b s : Nat} {M : Mp} (h : MapIs w b s M) {k v : Int} (hk : I64 k) (hv : I64 v) (hs : s < maxLen) :
    ∃ w', (Instr.mapUpdate 91 (.map (some b)) (.int .i64 k) (.int .i64 v)).run Try.prog w = .ok () w' ∧ MapIs w' b (nx M s k) (M.put k v) ∧ w.grownBy w' (some b) := by
  obtain ⟨D, ho, hz, hvw⟩ := h
  obtain ⟨w', hrun, h1, h2⟩ := ho.update keyed underMap hs (keyInt hk) (plainElem_int (H := Unit) underInt (wf_of_i64 hv))
  have e : Maps.size (D.put (key k) (.lit (.int .i64 v))) = nx M s k := by
    unfold nx
    rw [size_put (ho.tidy keyed), hz, ← hvw k hk]
    unfold view
    by_cases hh : Maps.has D (key k) = true
    · obtain ⟨c, _, hat, _⟩ := ho.lookup_int keyed underMap underInt (zeroInt w) (keyInt hk)
      rw [hh, hat]; simp
    · simp [hh]
  exact ⟨w', hrun, ⟨_, e ▸ own_tight h1, e, fun x hx => by rw [view_put ho.isMap, hvw x hx]; rfl⟩, h2⟩
theorem MapIs.drop {w : World} {b s : Nat} {M : Mp} (h : MapIs w b s M) {k : Int} (hk : I64 k) (hM : M k ≠ none) (ty : TypeId) :
    ∃ w', (Builtin.delete_ #[91, 3] ty #[.map (some b), .int .i64 k]).run Try.prog w = .ok (.tuple #[]) w' ∧ MapIs w' b (s - 1) (M.del k) ∧ w.grownBy w' (some b) := by
  obtain ⟨D, ho, hz, hvw⟩ := h
  obtain ⟨w', hrun, h1, h2⟩ := ho.drop keyed underMap (keyInt hk) ty
  have hh : Maps.has D (key k) = true := by
    have := hvw k hk
    rw [← this] at hM
    unfold view at hM
    by_cases hh : Maps.has D (key k) = true
    · exact hh
    · simp [hh] at hM
  have e : Maps.size (D.del (key k)) = s - 1 := by
    have := size_del (k := key k) (ho.tidy keyed)
    rw [hh] at this; simp at this; omega
  exact ⟨w', hrun, ⟨_, e ▸ own_tight h1, e, fun x hx => by rw [view_del, hvw x hx]; rfl⟩, h2.grown⟩
theorem MapIs.look {w : World} {b s : Nat} {M : Mp} (h : MapIs w b s M) {k : Int} (hk : I64 k) :
    ∃ c, (Instr.lookup 91 (.map (some b)) (.int .i64 k) true).run Try.prog w = .ok (.tuple #[.int .i64 c, .bool (M k != none)]) w ∧ (M k ≠ none → M k = some c) := by
  obtain ⟨D, ho, hz, hvw⟩ := h
  obtain ⟨v, ps, hrun, hv⟩ := ho.look_ok keyed underMap (zeroInt w) (plainElem_int (H := Unit) (P := Try.prog) underInt (by decide)) (keyInt hk)
  obtain ⟨c, rfl, hc, hwc⟩ := plainElem_int_inv underInt hv
  have hc' := congrArg Prod.fst hc
  simp at hc'
  have e := hvw k hk
  unfold view at e
  refine ⟨c, ?_, fun hM => ?_⟩
  · rw [hrun, ← e]
    by_cases hh : Maps.has D (key k) = true
    · rw [hh, hc']; simp
    · simp [hh]
  · rw [← e] at hM ⊢
    by_cases hh : Maps.has D (key k) = true
    · rw [hh, hc']; simp
    · simp [hh] at hM

end Go.Proofs.Ytfbbllokpikbiab
