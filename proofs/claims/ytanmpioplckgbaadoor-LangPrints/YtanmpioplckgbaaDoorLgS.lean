import Derived.Test.YtanmpioplckgbaaDoorLgR
namespace Go.Proofs.YtanmpioplckgbaaDoor
open Go.RowKit
attribute [local go_sem] Oper.semAt_some run_store_nf run_store_f
/-- The places at which a walk may go on from a place. -/
def nx (l : List Ins) (p : Nat) : List Nat := ((l.getD p ins0).nxt p).map Int.toNat
theorem fb_none {l : List Ins} {n : Int} : ∀ m, firstBad l n m = none → ∀ p, l.length - m ≤ p → p < l.length → m ≤ l.length → (l.getD p ins0).can n = true
  | 0, _, p, h1, h2, _ => by omega
  | m + 1, h, p, h1, h2, h3 => by
    unfold firstBad at h
    split at h
    · cases h
    · rename_i hc
      by_cases e : p = l.length - (m + 1)
      · subst e; simpa using hc
      · exact fb_none m h p (by omega) h2 (by omega)
theorem chk_ok {l : List Ins} (h : (chk l).1 = 0) : l.length ≤ 64 ∧ ∀ p, p < l.length → (l.getD p ins0).can l.length = true := by
  unfold chk at h
  split at h
  · cases h
  · refine ⟨by omega, fun p hp => ?_⟩
    have hb : firstBad l l.length l.length = none := by
      cases e : firstBad l l.length l.length with
      | none => rfl
      | some i => rw [e] at h; cases h
    exact fb_none _ hb p (by omega) hp (Nat.le_refl _)
theorem can_to {q : Ins} {n : Int} (h : q.can n = true) (hj : q.code = 7 ∨ q.code = 8) : 0 ≤ q.to ∧ q.to ≤ n := by
  unfold Ins.can at h
  have hk : kdL q.code = true := by
    unfold kdL
    rcases hj with e | e <;> rw [e] <;> rfl
  rw [hk] at h
  unfold btw at h
  simp only [Bool.and_eq_true, decide_eq_true_eq] at h
  simp only [if_true, Bool.and_eq_true, decide_eq_true_eq] at h
  exact h.1.2.1.2
theorem nxt_ok {q : Ins} {p n : Nat} (h : q.can n = true) (hp : p < n) : ∀ x ∈ q.nxt p, ∃ y : Nat, x = (y : Int) ∧ y ≤ n := by
  intro x hx
  unfold Ins.nxt at hx
  have mk : ∀ z : Int, 0 ≤ z → z ≤ n → ∃ y : Nat, z = (y : Int) ∧ y ≤ n := fun z h0 h1 => ⟨z.toNat, by omega, by omega⟩
  split at hx
  · rename_i e
    have := can_to h (.inr e)
    have hx : x = q.to := by simpa using hx
    rw [hx]; exact mk _ this.1 this.2
  · split at hx
    · rename_i e
      have := can_to h (.inl e)
      have hx : x = q.to ∨ x = (p : Int) + 1 := by simpa using hx
      rcases hx with hx | hx
      · rw [hx]; exact mk _ this.1 this.2
      · rw [hx]; exact mk _ (by omega) (by omega)
    · split at hx
      · simp at hx
      · have hx : x = (p : Int) + 1 := by simpa using hx
        rw [hx]; exact mk _ (by omega) (by omega)
theorem nxt_len (q : Ins) (p : Int) : (q.nxt p).length ≤ 2 := by
  unfold Ins.nxt
  split <;> (try split) <;> (try split) <;> simp
theorem Ht.mk {n : Nat} {nx : Nat → List Nat} {p m : Nat} (hp : p < n) (h1 : ∀ q, q ∈ nx p → ∃ h, Ht n nx q h ∧ h ≤ m) (h2 : m = 0 ∨ ∃ q, q ∈ nx p ∧ Ht n nx q m) : Ht n nx p (m + 1) := by
  have ex : ∀ q, ∃ h, q ∈ nx p → Ht n nx q h ∧ h ≤ m := fun q => by
    by_cases e : q ∈ nx p
    · obtain ⟨h, hh⟩ := h1 q e
      exact ⟨h, fun _ => hh⟩
    · exact ⟨0, fun e' => absurd e' e⟩
  have hc := fun q => Classical.choose_spec (ex q)
  refine .step p m (fun q => Classical.choose (ex q)) hp (fun q hq => (hc q hq).1) (fun q hq => (hc q hq).2) ?_
  rcases h2 with h2 | ⟨q, hq, h⟩
  · exact .inl h2
  · exact .inr ⟨q, hq, (hc q hq).1.uniq h⟩
/-- The walks' block: the code and 64 lengths. -/
structure WB (w : World) (B : Nat) (v : Value) (L : Nat → Int) : Prop where
  s : w.cell? ⟨B, 0, none⟩ = some v
  c : ∀ i, i < 64 → w.cell? ⟨B, 1 + i, none⟩ = some (.int .i64 (L i))
  z : ∀ i, i < 64 → w.frozen? ⟨B, 1 + i, none⟩ = false
theorem WB.keep {w w' : World} {B : Nat} {v : Value} {L : Nat → Int} {S : Nat → Prop} (h : WB w B v L) (k : Keeps S w w') (hS : ¬ S B) : WB w' B v L :=
  ⟨k.cell h.s hS, fun i hi => k.cell (h.c i hi) hS, fun i hi => (k.frozen (p := ⟨B, 1 + i, none⟩) (World.block_lt_of_cell? w ⟨B, 0, none⟩ h.s) hS).trans (h.z i hi)⟩
theorem WB.set {w : World} {B : Nat} {v : Value} {L : Nat → Int} (h : WB w B v L) {p : Nat} (hp : p < 64) (x : Int) : WB (w.setCell ⟨B, 1 + p, none⟩ (.int .i64 x)) B v (fun i => if i = p then x else L i) := by
  refine ⟨?_, fun i hi => ?_, fun i hi => ?_⟩
  · rw [World.cell?_setCell_other _ _ _ _ (by intro e2; injection e2 with _ e3; omega)]
    exact h.s
  · by_cases e : i = p
    · subst e
      rw [if_pos rfl]
      exact World.cell?_setCell_same _ _ _ (h.c i hi)
    · rw [if_neg e, World.cell?_setCell_other _ _ _ _ (by intro e2; injection e2 with _ e3; omega)]
      exact h.c i hi
  · simp only [World.frozen?_setCell]
    exact h.z i hi
/-- What is known of the places. -/
def Kn (n : Nat) (nx : Nat → List Nat) (L : Nat → Int) : Prop := ∀ p, p < n → L p = 0 ∨ L p = -1 ∨ ∃ h : Nat, 0 < h ∧ L p = (h : Int) ∧ Ht n nx p h
/-- A circle that can be come to. -/
def Circ (n : Nat) (nx : Nat → List Nat) : Prop := ∃ i p k, p < n ∧ Wk n nx i 0 p ∧ Wk n nx (k + 1) p p
/-- What a walk from a place leaves. -/
structure FrG (n : Nat) (nx : Nat → List Nat) (B : Nat) (v : Value) (L L' : Nat → Int) (w w' : World) : Prop where
  b : WB w' B v L'
  k : Keeps (fun k => k = B) w w'
  kn : Kn n nx L'
  m : ∀ q, q < n → L' q = -1 → L q = -1
  o : ∀ q, q < n → L' q = 0 → L q = 0
theorem FrG.trans {n : Nat} {nx : Nat → List Nat} {B : Nat} {v : Value} {L L' L'' : Nat → Int} {w w' w'' : World} (h : FrG n nx B v L L' w w') (g : FrG n nx B v L' L'' w' w'') : FrG n nx B v L L'' w w'' :=
  ⟨g.b, h.k.trans g.k, g.kn, fun q hq e => h.m q hq (g.m q hq e), fun q hq e => h.o q hq (g.o q hq e)⟩
def FromP (n : Nat) (nx : Nat → List Nat) (B : Nat) (v : Value) (L : Nat → Int) (w : World) (p : Nat) (e : Ending) (w' : World) : Prop :=
  (∃ h : Nat, e = .returned (.tuple #[.int .i64 (h : Int), .bool true]) ∧ Ht n nx p h ∧ ∃ L', FrG n nx B v L L' w w') ∨ (∃ x, e = .returned (.tuple #[.int .i64 x, .bool false]) ∧ Circ n nx ∧ Keeps (fun k => k = B) w w')
/-- How far a round has come: the nexts up to k, the longest so far. -/
def Far (n : Nat) (nx : Nat → List Nat) (ys : List Nat) (k m : Nat) : Prop := (∀ q, q ∈ ys.take k → ∃ h, Ht n nx q h ∧ h ≤ m) ∧ (m = 0 ∨ ∃ q, q ∈ ys.take k ∧ Ht n nx q m)
theorem Far.next {n : Nat} {nx : Nat → List Nat} {ys : List Nat} {k m y h : Nat} (H : Far n nx ys k m) (hy : ys[k]? = some y) (hh : Ht n nx y h) : Far n nx ys (k + 1) (if m < h then h else m) := by
  have e : ys.take (k + 1) = ys.take k ++ [y] := by
    rw [List.take_add_one, hy]; rfl
  unfold Far
  rw [e]
  refine ⟨fun q hq => ?_, ?_⟩
  · rcases List.mem_append.1 hq with hq | hq
    · obtain ⟨g, hg, hl⟩ := H.1 q hq
      exact ⟨g, hg, by split <;> omega⟩
    · obtain rfl : q = y := by simpa using hq
      exact ⟨h, hh, by split <;> omega⟩
  · split
    · exact .inr ⟨y, List.mem_append.2 (.inr (by simp)), hh⟩
    · rcases H.2 with H2 | ⟨q, hq, hg⟩
      · exact .inl H2
      · exact .inr ⟨q, List.mem_append.2 (.inl hq), hg⟩
/-- A round's state. -/
structure LpR (n : Nat) (nx : Nat → List Nat) (B : Nat) (v : Value) (L : Nat → Int) (w Wr : World) (ys : List Nat) (k m : Nat) : Prop where
  r : ∃ Lr, FrG n nx B v L Lr w Wr
  f : Far n nx ys k m
  kl : k ≤ ys.length
theorem Ht.pos {n : Nat} {nx : Nat → List Nat} {p h : Nat} (H : Ht n nx p h) (hp : p < n) : 0 < h := by
  cases H with
  | fin => omega
  | step m g hp hs hl hm => omega
end Go.Proofs.YtanmpioplckgbaaDoor
