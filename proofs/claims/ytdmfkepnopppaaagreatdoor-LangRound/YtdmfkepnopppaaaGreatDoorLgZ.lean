import Derived.Test.YtdmfkepnopppaaaGreatDoorLgG
namespace Go.Proofs.YtdmfkepnopppaaaGreatDoor
open Go.RowKit
attribute [local go_sem] Oper.semAt_some run_store_nf run_store_f
def Ins.jmp (q : Ins) : Bool := q.code == 7 || q.code == 8
/-- Does no jump go back, from the k-th on? -/
def fwd (l : List Ins) : Nat → Bool
  | 0 => true
  | m + 1 => if ((l.getD (l.length - (m + 1)) ins0).jmp && decide ((l.getD (l.length - (m + 1)) ins0).to ≤ ((l.length - (m + 1) : Nat) : Int))) = true then false else fwd l m
theorem fwd_lt {l : List Ins} {k : Nat} (h : k < l.length) : fwd l (l.length - k) = if ((l.getD k ins0).jmp && decide ((l.getD k ins0).to ≤ (k : Int))) = true then false else fwd l (l.length - (k + 1)) := by
  have e : l.length - k = (l.length - (k + 1)) + 1 := by omega
  rw [e]
  show (if ((l.getD (l.length - (l.length - (k + 1) + 1)) ins0).jmp && decide ((l.getD (l.length - (l.length - (k + 1) + 1)) ins0).to ≤ ((l.length - (l.length - (k + 1) + 1) : Nat) : Int))) = true then false else _) = _
  rw [show l.length - (l.length - (k + 1) + 1) = k by omega]
/-- What Forward answers. -/
def fwB (l : List Ins) : Bool := if (chk l).1 = 0 then fwd l l.length else false
theorem jumps_any (w : World) (q : Ins) : Calls Tryz.prog 31 #[.agg q.cells.toArray] w fun e w' => e = .returned (.bool q.jmp) ∧ Keeps (fun _ => False) w w' := by
  obtain ⟨cd, dst, oR, oN, xR, xN, yR, yN, op, rel, to⟩ := q
  show Calls Tryz.prog 31 #[.agg #[.int .i64 cd, .int .i64 dst, .bool oR, .int .i64 oN, .bool xR, .int .i64 xN, .bool yR, .int .i64 yN, .int .i64 op, .int .i64 rel, .int .i64 to]] w _
  have k : Keeps (fun _ => False) w (w.alloc (.cells #[.int .i64 cd, .int .i64 dst, .bool oR, .int .i64 oN, .bool xR, .int .i64 xN, .bool yR, .int .i64 yN, .int .i64 op, .int .i64 rel, .int .i64 to] 45)) := (Keeps.refl _ w).alloc _
  unfold Ins.jmp
  simp only
  cases h1 : (cd == 7) <;> cases h2 : (cd == 8) <;>
  (go_enter Tryz.func31, Tryz.ntmps31
   go_wp2
   go_ret
   exact ⟨rfl, k⟩)
end Go.Proofs.YtdmfkepnopppaaaGreatDoor
namespace Go.Proofs.YtdmfkepnopppaaaGreatDoor
/-- A walk of k steps from p to q; all places but the last are below n. -/
def Wk (n : Nat) (nx : Nat → List Nat) : Nat → Nat → Nat → Prop
  | 0, p, q => p = q
  | k + 1, p, q => p < n ∧ ∃ r, r ∈ nx p ∧ Wk n nx k r q
/-- The longest walk from a place goes through h places below n. -/
inductive Ht (n : Nat) (nx : Nat → List Nat) : Nat → Nat → Prop
  | fin : Ht n nx n 0
  | step (p m : Nat) (g : Nat → Nat) (hp : p < n) (hs : ∀ q, q ∈ nx p → Ht n nx q (g q)) (hl : ∀ q, q ∈ nx p → g q ≤ m) (hm : m = 0 ∨ ∃ q, q ∈ nx p ∧ g q = m) : Ht n nx p (m + 1)
section
variable {n : Nat} {nx : Nat → List Nat}
theorem Ht.no {p h : Nat} (H : Ht n nx p h) : ∀ k q, h ≤ k → q < n → ¬ Wk n nx k p q := by
  induction H with
  | fin =>
    intro k q _ hq hw
    cases k with
    | zero => have hw : n = q := hw; omega
    | succ k => have := hw.1; omega
  | step p m g hp hs hl hm ih =>
    intro k q hk hq hw
    cases k with
    | zero => omega
    | succ k =>
      obtain ⟨_, r, hr, hw⟩ := hw
      exact ih r hr k q (by have := hl r hr; omega) hq hw
theorem Ht.yes {p h : Nat} (H : Ht n nx p h) : ∀ m, h = m + 1 → ∃ q, q < n ∧ Wk n nx m p q := by
  induction H with
  | fin => intro m e; omega
  | step p m g hp hs hl hm ih =>
    intro m' e
    obtain rfl : m = m' := by omega
    rcases hm with rfl | ⟨q, hq, e⟩
    · exact ⟨p, hp, rfl⟩
    · cases m with
      | zero => exact ⟨p, hp, rfl⟩
      | succ m'' =>
        obtain ⟨r, hr, hw⟩ := ih q hq m'' e
        exact ⟨r, hr, hp, q, hq, hw⟩
theorem Ht.uniq {p h h' : Nat} (H : Ht n nx p h) (H' : Ht n nx p h') : h = h' := by
  rcases Nat.lt_trichotomy h h' with l | e | l
  · exfalso
    obtain ⟨m, rfl⟩ : ∃ m, h' = m + 1 := ⟨h' - 1, by omega⟩
    obtain ⟨q, hq, hw⟩ := H'.yes m rfl
    exact H.no m q (by omega) hq hw
  · exact e
  · exfalso
    obtain ⟨m, rfl⟩ : ∃ m, h = m + 1 := ⟨h - 1, by omega⟩
    obtain ⟨q, hq, hw⟩ := H.yes m rfl
    exact H'.no m q (by omega) hq hw
/-- Every lesser height is some place's. -/
theorem Ht.each {p h : Nat} (H : Ht n nx p h) : ∀ j, 1 ≤ j → j ≤ h → ∃ q, q < n ∧ Ht n nx q j := by
  induction H with
  | fin => intro j h1 h2; omega
  | step p m g hp hs hl hm ih =>
    intro j h1 h2
    by_cases e : j = m + 1
    · subst e; exact ⟨p, hp, .step p m g hp hs hl hm⟩
    · rcases hm with rfl | ⟨q, hq, e'⟩
      · omega
      · exact ih q hq j h1 (by omega)
theorem pigeon : ∀ (n h : Nat) (c : Nat → Nat), (∀ j, j < h → c j < n) → (∀ i j, i < h → j < h → c i = c j → i = j) → h ≤ n
  | 0, h, c, hc, _ => by
    cases h with
    | zero => exact Nat.le_refl _
    | succ h => have := hc 0 (by omega); omega
  | n + 1, h, c, hc, hi => by
    by_cases e : ∃ j0, j0 < h ∧ c j0 = n
    · obtain ⟨j0, hj, e⟩ := e
      have := pigeon n (h - 1) (fun j => if j < j0 then c j else c (j + 1)) (fun j hj' => by
        split
        · have a := hc j (by omega)
          have b : c j ≠ n := fun e' => by have := hi j j0 (by omega) hj (e'.trans e.symm); omega
          omega
        · have a := hc (j + 1) (by omega)
          have b : c (j + 1) ≠ n := fun e' => by have := hi (j + 1) j0 (by omega) hj (e'.trans e.symm); omega
          omega) (fun i j h1 h2 e' => by
        split at e' <;> split at e'
        · exact hi i j (by omega) (by omega) e'
        · have := hi i (j + 1) (by omega) (by omega) e'; omega
        · have := hi (i + 1) j (by omega) (by omega) e'; omega
        · have := hi (i + 1) (j + 1) (by omega) (by omega) e'; omega)
      omega
    · have := pigeon n h c (fun j hj => by
        have a := hc j hj
        have b : c j ≠ n := fun e' => e ⟨j, hj, e'⟩
        omega) hi
      omega
/-- A height is no more than the places. -/
theorem Ht.le {p h : Nat} (H : Ht n nx p h) : h ≤ n := by
  have ex : ∀ j, ∃ q, j < h → q < n ∧ Ht n nx q (j + 1) := fun j => by
    by_cases e : j < h
    · obtain ⟨q, hq, hh⟩ := H.each (j + 1) (by omega) (by omega)
      exact ⟨q, fun _ => ⟨hq, hh⟩⟩
    · exact ⟨0, fun e' => absurd e' e⟩
  have hc := fun j => Classical.choose_spec (ex j)
  refine pigeon n h (fun j => Classical.choose (ex j)) (fun j hj => (hc j hj).1) (fun i j hi hj e => ?_)
  have a := (hc i hi).2
  have b := (hc j hj).2
  have e : Classical.choose (ex i) = Classical.choose (ex j) := e
  rw [e] at a
  have := a.uniq b
  omega
theorem Wk.trans {i j p q r : Nat} (h : Wk n nx i p q) (k : Wk n nx j q r) : Wk n nx (i + j) p r := by
  induction i generalizing p with
  | zero => obtain rfl : p = q := h; rw [Nat.zero_add]; exact k
  | succ i ih =>
    rw [show i + 1 + j = (i + j) + 1 by omega]
    obtain ⟨hp, s, hs, hw⟩ := h
    exact ⟨hp, s, hs, ih hw⟩
/-- A walk's beginning. -/
theorem Wk.pre {i j p r : Nat} (h : Wk n nx (i + j) p r) (hr : r < n) : ∃ q, q < n ∧ Wk n nx i p q := by
  induction i generalizing p with
  | zero =>
    rw [Nat.zero_add] at h
    cases j with
    | zero => obtain rfl : p = r := h; exact ⟨p, hr, rfl⟩
    | succ j => exact ⟨p, h.1, rfl⟩
  | succ i ih =>
    rw [show i + 1 + j = (i + j) + 1 by omega] at h
    obtain ⟨hp, s, hs, hw⟩ := h
    obtain ⟨q, hq, hw⟩ := ih hw
    exact ⟨q, hq, hp, s, hs, hw⟩
/-- Who can come to a circle can walk for ever. -/
theorem Wk.ever {i k o p : Nat} (h : Wk n nx i o p) (hp : p < n) (c : Wk n nx (k + 1) p p) : ∀ m, ∃ q, q < n ∧ Wk n nx m o q := by
  have it : ∀ t, ∃ j, t ≤ j ∧ Wk n nx j p p := fun t => by
    induction t with
    | zero => exact ⟨0, Nat.le_refl _, rfl⟩
    | succ t ih =>
      obtain ⟨j, hj, hw⟩ := ih
      exact ⟨j + (k + 1), by omega, hw.trans c⟩
  intro m
  obtain ⟨j, hj, hw⟩ := it m
  have := h.trans hw
  rw [show i + j = m + (i + j - m) by omega] at this
  exact this.pre hp
end
end Go.Proofs.YtdmfkepnopppaaaGreatDoor
namespace Go.Proofs.YtdmfkepnopppaaaGreatDoor
open Go.RowKit
attribute [local go_sem] Oper.semAt_some run_store_nf run_store_f
/-- A slice's block is new. -/
def NewB (w : World) (v : Value) : Prop := ∀ a n c, v = .slice a n c → ∀ b off, a = some ⟨b, off, none⟩ → w.heap.size ≤ b
theorem NewB.mk {w : World} {x n c : Nat} (h : w.heap.size ≤ x) : NewB w (.slice (some ⟨x, 0, none⟩) n c) := fun _ _ _ e b off h' => by
  injection e with e1 _ _
  rw [← e1] at h'
  injection h' with h'
  injection h' with h1 _ _
  omega
theorem NewB.nil {w : World} {n c : Nat} : NewB w (.slice none n c) := fun _ _ _ e b off h' => by
  injection e with e1 _ _
  rw [← e1] at h'
  cases h'
/-- The places at which a walk may go on. -/
def Ins.nxt (q : Ins) (p : Int) : List Int := if q.code = 8 then [q.to] else if q.code = 7 then [q.to, p + 1] else if q.code = 9 ∨ q.code = 10 then [] else [p + 1]
end Go.Proofs.YtdmfkepnopppaaaGreatDoor
namespace Go.Proofs.YtdmfkepnopppaaaGreatDoor
open Go.RowKit
attribute [local go_sem] Oper.semAt_some run_store_nf run_store_f
/-- The places at which a walk may go on from a place. -/
def nx (l : List Ins) (p : Nat) : List Nat := ((l.getD p ins0).nxt p).map Int.toNat
theorem fb_none {l : List Ins} {n : Int} : ∀ m, firstBad l n m = none → ∀ p, l.length - m ≤ p → p < l.length → m ≤ l.length → (l.getD p ins0).can n = true
  | 0, _, p, h1, h2, _ => by omega
  | m + 1, h, p, h1, h2, h3 => by
    unfold firstBad at h
    split at h
    · cases h
    · rename_i hc
      by_cases e : p = l.length - (m + 1)
      · subst e; simpa using hc
      · exact fb_none m h p (by omega) h2 (by omega)
theorem chk_ok {l : List Ins} (h : (chk l).1 = 0) : l.length ≤ 64 ∧ ∀ p, p < l.length → (l.getD p ins0).can l.length = true := by
  unfold chk at h
  split at h
  · cases h
  · refine ⟨by omega, fun p hp => ?_⟩
    have hb : firstBad l l.length l.length = none := by
      cases e : firstBad l l.length l.length with
      | none => rfl
      | some i => rw [e] at h; cases h
    exact fb_none _ hb p (by omega) hp (Nat.le_refl _)
theorem can_to {q : Ins} {n : Int} (h : q.can n = true) (hj : q.code = 7 ∨ q.code = 8) : 0 ≤ q.to ∧ q.to ≤ n := by
  unfold Ins.can at h
  have hk : kdL q.code = true := by
    unfold kdL
    rcases hj with e | e <;> rw [e] <;> rfl
  rw [hk] at h
  unfold btw at h
  simp only [Bool.and_eq_true, decide_eq_true_eq] at h
  simp only [if_true, Bool.and_eq_true, decide_eq_true_eq] at h
  exact h.1.2.1.2
theorem nxt_ok {q : Ins} {p n : Nat} (h : q.can n = true) (hp : p < n) : ∀ x ∈ q.nxt p, ∃ y : Nat, x = (y : Int) ∧ y ≤ n := by
  intro x hx
  unfold Ins.nxt at hx
  have mk : ∀ z : Int, 0 ≤ z → z ≤ n → ∃ y : Nat, z = (y : Int) ∧ y ≤ n := fun z h0 h1 => ⟨z.toNat, by omega, by omega⟩
  split at hx
  · rename_i e
    have := can_to h (.inr e)
    have hx : x = q.to := by simpa using hx
    rw [hx]; exact mk _ this.1 this.2
  · split at hx
    · rename_i e
      have := can_to h (.inl e)
      have hx : x = q.to ∨ x = (p : Int) + 1 := by simpa using hx
      rcases hx with hx | hx
      · rw [hx]; exact mk _ this.1 this.2
      · rw [hx]; exact mk _ (by omega) (by omega)
    · split at hx
      · simp at hx
      · have hx : x = (p : Int) + 1 := by simpa using hx
        rw [hx]; exact mk _ (by omega) (by omega)
theorem nxt_len (q : Ins) (p : Int) : (q.nxt p).length ≤ 2 := by
  unfold Ins.nxt
  split <;> (try split) <;> (try split) <;> simp
theorem Ht.mk {n : Nat} {nx : Nat → List Nat} {p m : Nat} (hp : p < n) (h1 : ∀ q, q ∈ nx p → ∃ h, Ht n nx q h ∧ h ≤ m) (h2 : m = 0 ∨ ∃ q, q ∈ nx p ∧ Ht n nx q m) : Ht n nx p (m + 1) := by
  have ex : ∀ q, ∃ h, q ∈ nx p → Ht n nx q h ∧ h ≤ m := fun q => by
    by_cases e : q ∈ nx p
    · obtain ⟨h, hh⟩ := h1 q e
      exact ⟨h, fun _ => hh⟩
    · exact ⟨0, fun e' => absurd e' e⟩
  have hc := fun q => Classical.choose_spec (ex q)
  refine .step p m (fun q => Classical.choose (ex q)) hp (fun q hq => (hc q hq).1) (fun q hq => (hc q hq).2) ?_
  rcases h2 with h2 | ⟨q, hq, h⟩
  · exact .inl h2
  · exact .inr ⟨q, hq, (hc q hq).1.uniq h⟩
/-- The walks' block: the code and 64 lengths. -/
structure WB (w : World) (B : Nat) (v : Value) (L : Nat → Int) : Prop where
  s : w.cell? ⟨B, 0, none⟩ = some v
  c : ∀ i, i < 64 → w.cell? ⟨B, 1 + i, none⟩ = some (.int .i64 (L i))
  z : ∀ i, i < 64 → w.frozen? ⟨B, 1 + i, none⟩ = false
theorem WB.keep {w w' : World} {B : Nat} {v : Value} {L : Nat → Int} {S : Nat → Prop} (h : WB w B v L) (k : Keeps S w w') (hS : ¬ S B) : WB w' B v L :=
  ⟨k.cell h.s hS, fun i hi => k.cell (h.c i hi) hS, fun i hi => (k.frozen (p := ⟨B, 1 + i, none⟩) (World.block_lt_of_cell? w ⟨B, 0, none⟩ h.s) hS).trans (h.z i hi)⟩
theorem WB.set {w : World} {B : Nat} {v : Value} {L : Nat → Int} (h : WB w B v L) {p : Nat} (hp : p < 64) (x : Int) : WB (w.setCell ⟨B, 1 + p, none⟩ (.int .i64 x)) B v (fun i => if i = p then x else L i) := by
  refine ⟨?_, fun i hi => ?_, fun i hi => ?_⟩
  · rw [World.cell?_setCell_other _ _ _ _ (by intro e2; injection e2 with _ e3; omega)]
    exact h.s
  · by_cases e : i = p
    · subst e
      rw [if_pos rfl]
      exact World.cell?_setCell_same _ _ _ (h.c i hi)
    · rw [if_neg e, World.cell?_setCell_other _ _ _ _ (by intro e2; injection e2 with _ e3; omega)]
      exact h.c i hi
  · simp only [World.frozen?_setCell]
    exact h.z i hi
/-- What is known of the places. -/
def Kn (n : Nat) (nx : Nat → List Nat) (L : Nat → Int) : Prop := ∀ p, p < n → L p = 0 ∨ L p = -1 ∨ ∃ h : Nat, 0 < h ∧ L p = (h : Int) ∧ Ht n nx p h
/-- A circle that can be come to. -/
def Circ (n : Nat) (nx : Nat → List Nat) : Prop := ∃ i p k, p < n ∧ Wk n nx i 0 p ∧ Wk n nx (k + 1) p p
/-- What a walk from a place leaves. -/
structure FrG (n : Nat) (nx : Nat → List Nat) (B : Nat) (v : Value) (L L' : Nat → Int) (w w' : World) : Prop where
  b : WB w' B v L'
  k : Keeps (fun k => k = B) w w'
  kn : Kn n nx L'
  m : ∀ q, q < n → L' q = -1 → L q = -1
  o : ∀ q, q < n → L' q = 0 → L q = 0
theorem FrG.trans {n : Nat} {nx : Nat → List Nat} {B : Nat} {v : Value} {L L' L'' : Nat → Int} {w w' w'' : World} (h : FrG n nx B v L L' w w') (g : FrG n nx B v L' L'' w' w'') : FrG n nx B v L L'' w w'' :=
  ⟨g.b, h.k.trans g.k, g.kn, fun q hq e => h.m q hq (g.m q hq e), fun q hq e => h.o q hq (g.o q hq e)⟩
def FromP (n : Nat) (nx : Nat → List Nat) (B : Nat) (v : Value) (L : Nat → Int) (w : World) (p : Nat) (e : Ending) (w' : World) : Prop :=
  (∃ h : Nat, e = .returned (.tuple #[.int .i64 (h : Int), .bool true]) ∧ Ht n nx p h ∧ ∃ L', FrG n nx B v L L' w w') ∨ (∃ x, e = .returned (.tuple #[.int .i64 x, .bool false]) ∧ Circ n nx ∧ Keeps (fun k => k = B) w w')
/-- How far a round has come: the nexts up to k, the longest so far. -/
def Far (n : Nat) (nx : Nat → List Nat) (ys : List Nat) (k m : Nat) : Prop := (∀ q, q ∈ ys.take k → ∃ h, Ht n nx q h ∧ h ≤ m) ∧ (m = 0 ∨ ∃ q, q ∈ ys.take k ∧ Ht n nx q m)
theorem Far.next {n : Nat} {nx : Nat → List Nat} {ys : List Nat} {k m y h : Nat} (H : Far n nx ys k m) (hy : ys[k]? = some y) (hh : Ht n nx y h) : Far n nx ys (k + 1) (if m < h then h else m) := by
  have e : ys.take (k + 1) = ys.take k ++ [y] := by
    rw [List.take_add_one, hy]; rfl
  unfold Far
  rw [e]
  refine ⟨fun q hq => ?_, ?_⟩
  · rcases List.mem_append.1 hq with hq | hq
    · obtain ⟨g, hg, hl⟩ := H.1 q hq
      exact ⟨g, hg, by split <;> omega⟩
    · obtain rfl : q = y := by simpa using hq
      exact ⟨h, hh, by split <;> omega⟩
  · split
    · exact .inr ⟨y, List.mem_append.2 (.inr (by simp)), hh⟩
    · rcases H.2 with H2 | ⟨q, hq, hg⟩
      · exact .inl H2
      · exact .inr ⟨q, List.mem_append.2 (.inl hq), hg⟩
/-- A round's state. -/
structure LpR (n : Nat) (nx : Nat → List Nat) (B : Nat) (v : Value) (L : Nat → Int) (w Wr : World) (ys : List Nat) (k m : Nat) : Prop where
  r : ∃ Lr, FrG n nx B v L Lr w Wr
  f : Far n nx ys k m
  kl : k ≤ ys.length
theorem Ht.pos {n : Nat} {nx : Nat → List Nat} {p h : Nat} (H : Ht n nx p h) (hp : p < n) : 0 < h := by
  cases H with
  | fin => omega
  | step m g hp hs hl hm => omega
end Go.Proofs.YtdmfkepnopppaaaGreatDoor
