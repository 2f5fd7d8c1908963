import Derived.Test.YtmnmphkkcabkiaaG14
import Derived.Shelf.SlIterI.Collect
import Derived.Ground.GgzProg
import Derived.Test.YtmnmphkkcabkiaaG15
import Derived.Sort.MapsRangeIn
import Derived.RangeFuncLeaves
import Derived.WalkKit
import Derived.OwnWalkIn
import Derived.TacticsInMore
import Derived.RegionIn
import Derived.LoopNIn
import Derived.LoopIn
import Derived.Shelf.AbstractIn
namespace Go.Proofs.Ytmnmphkkcabkiaa
open Go.RowKit
def OPn (f : Nat → Int) (th : Nat) : Bool := f (th * 5) == 1 || f (th * 5) == 2
theorem OPn_iff {f : Nat → Int} {th : Nat} : OPn f th = true ↔ f (th * 5) = 1 ∨ f (th * 5) = 2 := by unfold OPn; simp
theorem OPn_not {f : Nat → Int} {th : Nat} : OPn f th = false ↔ f (th * 5) ≠ 1 ∧ f (th * 5) ≠ 2 := by unfold OPn; simp
def opS (f g : Nat → Int) (s : Nat) : Bool := (List.range 6).any (fun th => OPn f th && g th == (s : Int))
theorem opS_iff {f g : Nat → Int} {s : Nat} : opS f g s = true ↔ ∃ th, th < 6 ∧ OPn f th = true ∧ g th = (s : Int) := by
  unfold opS
  simp
theorem opS_not {f g : Nat → Int} {s : Nat} : opS f g s = false ↔ ∀ th, th < 6 → OPn f th = true → g th ≠ (s : Int) := by
  constructor
  · intro h th h1 h2 h3
    rw [opS_iff.2 ⟨th, h1, h2, h3⟩] at h
    cases h
  · intro h
    cases e : opS f g s with
    | false => rfl
    | true =>
      obtain ⟨th, h1, h2, h3⟩ := opS_iff.1 e
      exact absurd h3 (h th h1 h2)
structure OI (f g : Nat → Int) : Prop where
  n : 0 ≤ f 30
  b : ∀ th, th < 6 → OPn f th = true → 0 ≤ g th ∧ g th < f 30
  d : ∀ th th', th < 6 → th' < 6 → OPn f th = true → OPn f th' = true → g th = g th' → th = th'
theorem OI.start : OI (f0 6) (fun _ => 0) := by
  have h0 : ∀ th, th < 6 → OPn (f0 6) th = false := fun th ht => by
    rw [OPn_not]
    unfold f0
    rw [if_neg (by omega)]
    exact ⟨by decide, by decide⟩
  refine ⟨by unfold f0; decide, fun th h1 h => ?_, fun th th' h1 _ h => ?_⟩
  · rw [h0 th h1] at h; cases h
  · rw [h0 th h1] at h; cases h
inductive OS (f g f' g' : Nat → Int) (r : Rw) : Prop where
  | idle (hk : r.kind ≠ 1) (hd : dec r.fin = false) (h : ∀ q, q < 6 → OPn f' q = OPn f q) (hg : ∀ q, q < 6 → OPn f q = true → g' q = g q) (hn : f' 30 = f 30) : OS f g f' g' r
  | beg (th : Nat) (ht : th < 6) (et : r.thread = (th : Int)) (hk : r.kind = 1) (hd : dec r.fin = false) (ho : OPn f th = false) (hs : r.seen = f 30) (h1 : OPn f' th = true) (h : ∀ q, q < 6 → q ≠ th → OPn f' q = OPn f q) (g1 : g' th = r.seen) (hg : ∀ q, q < 6 → q ≠ th → g' q = g q) (hn : f' 30 = f 30 + 1) : OS f g f' g' r
  | fin (th : Nat) (ht : th < 6) (et : r.thread = (th : Int)) (hk : r.kind ≠ 1) (hd : dec r.fin = true) (ho : OPn f th = true) (hno : r.no = f (th * 5 + 3)) (h1 : OPn f' th = false) (h : ∀ q, q < 6 → q ≠ th → OPn f' q = OPn f q) (hg : ∀ q, q < 6 → g' q = g q) (hn : f' 30 = f 30) : OS f g f' g' r
theorem fol_30 {f : Nat → Int} {r : Rw} {th : Nat} (ht : th < 6) (hk : r.kind ≠ 0) : folP f r th 30 = f 30 + if r.kind = 1 then 1 else 0 := by
  rw [folP_at hk (by omega) (by omega)]
  unfold fol2
  have g : fol1 f r th 30 = f 30 := by unfold fol1; rw [up_ne (by omega), up_ne (by omega), up_ne (by omega)]
  by_cases h1 : r.kind = 1
  · rw [if_pos h1, if_pos h1, up_ne (by omega), up_ne (by omega), up_ne (by omega), up_at]
  · rw [if_neg h1, if_neg h1]
    by_cases h2 : r.kind = 2
    · rw [if_pos h2, up_ne (by omega), up_ne (by omega), up_ne (by omega), g]; omega
    · rw [if_neg h2]
      split
      · rw [up_ne (by omega), g]; omega
      · rw [g]; omega
theorem fit_beg {f : Nat → Int} {r : Rw} {th : Nat} (h : fitP f r th = true) (hk : r.kind = 1) : f (th * 5) = 0 ∧ r.seen = f 30 ∧ r.fin = 0 := by
  unfold fitP at h
  rw [if_neg (by omega)] at h
  by_cases ht : r.thread < 0 ∨ 6 ≤ r.thread
  · rw [if_pos ht] at h; cases h
  · rw [if_neg ht, if_pos hk] at h
    simp only [Bool.and_eq_true, beq_iff_eq, sil_iff] at h
    exact ⟨h.1.1.1, h.1.2, h.2.1⟩
theorem fit_again {f : Nat → Int} {r : Rw} {th : Nat} (h : fitP f r th = true) (hk : r.kind = 2) : f (th * 5) = 2 ∧ r.fin = 0 := by
  unfold fitP at h
  rw [if_neg (by omega)] at h
  by_cases ht : r.thread < 0 ∨ 6 ≤ r.thread
  · rw [if_pos ht] at h; cases h
  · rw [if_neg ht, if_neg (by omega), if_pos hk] at h
    simp only [Bool.and_eq_true, beq_iff_eq, sil_iff] at h
    exact ⟨h.1.1, h.2.1⟩
theorem fit_back {f : Nat → Int} {r : Rw} {th : Nat} (h : fitP f r th = true) (hk : r.kind = 17) : f (th * 5) = 3 ∧ r.fin = 0 := by
  unfold fitP at h
  rw [if_neg (by omega)] at h
  by_cases ht : r.thread < 0 ∨ 6 ≤ r.thread
  · rw [if_pos ht] at h; cases h
  · rw [if_neg ht, if_neg (by omega), if_neg (by omega), if_pos hk] at h
    simp only [Bool.and_eq_true, beq_iff_eq, sil_iff] at h
    exact ⟨h.1.1, h.2.1⟩
theorem os_of {f g : Nat → Int} {ts : List Tv} {r : Rw} (hro : RO f ts.length r) (hf : fitP f r r.thread.toNat = true) : OS f g (folP f r r.thread.toNat) (stT (ts, g) r).2 r := by
  by_cases hk : r.kind = 0
  · have e1 : folP f r r.thread.toNat = f := by unfold folP; rw [if_pos hk]
    have e2 : (stT (ts, g) r).2 = g := by
      unfold stT
      rw [if_neg (by omega), if_neg (by omega), if_neg (by rw [hk]; decide)]
    have h3 := (fit_quiet hf (by rw [hk]; rfl)).1
    rw [e1, e2]
    exact .idle (by omega) (by rw [h3]; rfl) (fun _ _ => rfl) (fun _ _ _ => rfl) rfl
  have ht := hro.th hk
  obtain ⟨th, hth⟩ : ∃ th, r.thread.toNat = th := ⟨_, rfl⟩
  have htl : th < 6 := by omega
  have et : r.thread = (th : Int) := by omega
  rw [hth] at hf ⊢
  have hst := fol_state (f := f) (r := r) (th := th) hk
  have h30 := fol_30 (f := f) htl hk
  have ho0 : ∀ q, q < 6 → q ≠ th → folP f r th (q * 5) = f (q * 5) := fun q hq e => by have := folP_other (f := f) (r := r) (th := th) (o := 0) hk hq e (by omega); rwa [Nat.add_zero] at this
  have hoo : ∀ q, q < 6 → q ≠ th → OPn (folP f r th) q = OPn f q := fun q hq e => by unfold OPn; rw [ho0 q hq e]
  by_cases h1 : r.kind = 1
  · obtain ⟨f1, f2, f3⟩ := fit_beg hf h1
    have e2 : (stT (ts, g) r).2 = up g th r.seen := by
      unfold stT
      rw [if_pos h1, hth]
    rw [e2]
    refine .beg th htl et h1 (by rw [f3]; rfl) (OPn_not.2 (by rw [f1]; exact ⟨by decide, by decide⟩)) f2 (OPn_iff.2 (.inl ?_)) hoo (up_at _ _ _) (fun q _ e => up_ne e) (by rw [h30, if_pos h1])
    rw [hst, f3, if_neg (by decide), if_neg (by decide), if_pos (.inl h1)]
  have e2 : (stT (ts, g) r).2 = g := by
    unfold stT
    rw [if_neg h1]
    split
    · rfl
    · split
      · rfl
      · rfl
  rw [e2]
  have hn : folP f r th 30 = f 30 := by rw [h30, if_neg h1]; omega
  by_cases h2 : r.kind = 2
  · obtain ⟨f1, f3⟩ := fit_again hf h2
    refine .idle h1 (by rw [f3]; rfl) (fun q hq => ?_) (fun _ _ _ => rfl) hn
    by_cases e : q = th
    · subst e
      rw [OPn_iff.2 (.inr f1)]
      refine OPn_iff.2 (.inl ?_)
      rw [hst, f3, if_neg (by decide), if_neg (by decide), if_pos (.inr h2)]
    · exact hoo q hq e
  by_cases h17 : r.kind = 17
  · obtain ⟨f1, f3⟩ := fit_back hf h17
    refine .idle h1 (by rw [f3]; rfl) (fun q hq => ?_) (fun _ _ _ => rfl) hn
    by_cases e : q = th
    · subst e
      rw [OPn_not (f := f) (th := q) |>.2 (by rw [f1]; exact ⟨by decide, by decide⟩)]
      refine OPn_not.2 ?_
      rw [hst, f3, if_neg (by decide), if_neg (by decide), if_neg (by omega), if_pos h17]
      exact ⟨by decide, by decide⟩
    · exact hoo q hq e
  have hof := ofd_x hk h1 h2 h17
  obtain ⟨l1, l2⟩ := fit_live hf hof
  cases hd : dec r.fin with
  | true =>
    refine .fin th htl et h1 hd (OPn_iff.2 (.inl l2)) l1 (OPn_not.2 ?_) hoo (fun _ _ => rfl) hn
    rw [hst, hd, if_pos rfl]
    exact ⟨by decide, by decide⟩
  | false =>
    refine .idle h1 hd (fun q hq => ?_) (fun _ _ _ => rfl) hn
    by_cases e : q = th
    · subst e
      rw [OPn_iff.2 (.inl l2)]
      refine OPn_iff.2 ?_
      rw [hst, hd, if_neg (by decide)]
      split
      · exact .inr rfl
      · rw [if_neg (by omega)]
        (try rw [if_neg h17])
        exact .inl l2
    · exact hoo q hq e
theorem OI.next {f g f' g' : Nat → Int} {r : Rw} (h : OI f g) (s : OS f g f' g' r) : OI f' g' := by
  have hn0 := h.n
  cases s with
  | idle hk hd h1 hg hn =>
    refine ⟨by omega, fun th ht ho => ?_, fun a b ha hb h2 h3 e => ?_⟩
    · rw [h1 th ht] at ho
      rw [hg th ht ho, hn]
      exact h.b th ht ho
    · rw [h1 a ha] at h2
      rw [h1 b hb] at h3
      rw [hg a ha h2, hg b hb h3] at e
      exact h.d a b ha hb h2 h3 e
  | beg th ht et hk hd ho hs h1 h2 g1 hg hn =>
    refine ⟨by omega, fun q hq hoq => ?_, fun a b ha hb ha2 hb2 e => ?_⟩
    · by_cases e : q = th
      · rw [e, g1, hs, hn]
        omega
      · rw [h2 q hq e] at hoq
        rw [hg q hq e, hn]
        have := h.b q hq hoq
        omega
    · by_cases e1 : a = th
      · by_cases e2 : b = th
        · omega
        · rw [h2 b hb e2] at hb2
          rw [e1, g1, hg b hb e2, hs] at e
          have := h.b b hb hb2
          omega
      · rw [h2 a ha e1] at ha2
        by_cases e2 : b = th
        · rw [e2, g1, hg a ha e1, hs] at e
          have := h.b a ha ha2
          omega
        · rw [h2 b hb e2] at hb2
          rw [hg a ha e1, hg b hb e2] at e
          exact h.d a b ha hb ha2 hb2 e
  | fin th ht et hk hd ho hno h1 h2 hg hn =>
    have sub : ∀ q, q < 6 → OPn f' q = true → OPn f q = true := fun q hq e => by
      by_cases e1 : q = th
      · rw [e1]; exact ho
      · rw [h2 q hq e1] at e; exact e
    refine ⟨by omega, fun q hq hoq => ?_, fun a b ha hb ha2 hb2 e => ?_⟩
    · rw [hg q hq, hn]
      exact h.b q hq (sub q hq hoq)
    · rw [hg a ha, hg b hb] at e
      exact h.d a b ha hb (sub a ha ha2) (sub b hb hb2) e
theorem os_row {l : List Rw} (h : fstP l 0 (f0 6) = none) {k : Nat} (hk : k < l.length) : OS (fAt l k) (txK l k).2 (fAt l (k + 1)) (txK l (k + 1)).2 (l.getD k rw0) := os_of (ts := (txK l k).1) (txK_ro h hk) (row_ok h hk).2
theorem oi_inv {l : List Rw} (h : fstP l 0 (f0 6) = none) : ∀ k, k ≤ l.length → OI (fAt l k) (txK l k).2
  | 0, _ => OI.start
  | k + 1, hk => (oi_inv h k (by omega)).next (os_row h (by omega))
theorem opS_beg {f g f' g' : Nat → Int} {th s : Nat} (ht : th < 6) (ho : OPn f th = false) (h1 : OPn f' th = true) (h : ∀ q, q < 6 → q ≠ th → OPn f' q = OPn f q) (g1 : g' th = f 30) (hg : ∀ q, q < 6 → q ≠ th → g' q = g q) : opS f' g' s = if (s : Int) = f 30 then true else opS f g s := by
  by_cases e : (s : Int) = f 30
  · rw [if_pos e]
    exact opS_iff.2 ⟨th, ht, h1, by rw [g1, e]⟩
  · rw [if_neg e]
    cases e2 : opS f g s with
    | true =>
      obtain ⟨q, hq, h2, h3⟩ := opS_iff.1 e2
      have hne : q ≠ th := fun e => by rw [e, ho] at h2; cases h2
      exact opS_iff.2 ⟨q, hq, by rw [h q hq hne]; exact h2, by rw [hg q hq hne]; exact h3⟩
    | false =>
      refine opS_not.2 (fun q hq h2 h3 => ?_)
      by_cases e3 : q = th
      · rw [e3, g1] at h3; omega
      · rw [h q hq e3] at h2
        rw [hg q hq e3] at h3
        exact opS_not.1 e2 q hq h2 h3
theorem opS_fin {f g f' g' : Nat → Int} {th s : Nat} (hi : OI f g) (ht : th < 6) (ho : OPn f th = true) (h1 : OPn f' th = false) (h : ∀ q, q < 6 → q ≠ th → OPn f' q = OPn f q) (hg : ∀ q, q < 6 → g' q = g q) : opS f' g' s = if (s : Int) = g th then false else opS f g s := by
  by_cases e : (s : Int) = g th
  · rw [if_pos e]
    refine opS_not.2 (fun q hq h2 h3 => ?_)
    by_cases e3 : q = th
    · rw [e3, h1] at h2; cases h2
    · rw [h q hq e3] at h2
      rw [hg q hq] at h3
      exact e3 (hi.d q th hq ht h2 ho (by omega))
  · rw [if_neg e]
    cases e2 : opS f g s with
    | true =>
      obtain ⟨q, hq, h2, h3⟩ := opS_iff.1 e2
      have hne : q ≠ th := fun e4 => by rw [e4] at h3; omega
      exact opS_iff.2 ⟨q, hq, by rw [h q hq hne]; exact h2, by rw [hg q hq]; exact h3⟩
    | false =>
      refine opS_not.2 (fun q hq h2 h3 => ?_)
      by_cases e3 : q = th
      · rw [e3, h1] at h2; cases h2
      · rw [h q hq e3] at h2
        rw [hg q hq] at h3
        exact opS_not.1 e2 q hq h2 h3
theorem opS_idle {f g f' g' : Nat → Int} {s : Nat} (h : ∀ q, q < 6 → OPn f' q = OPn f q) (hg : ∀ q, q < 6 → OPn f q = true → g' q = g q) : opS f' g' s = opS f g s := by
  cases e2 : opS f g s with
  | true =>
    obtain ⟨q, hq, h2, h3⟩ := opS_iff.1 e2
    exact opS_iff.2 ⟨q, hq, by rw [h q hq]; exact h2, by rw [hg q hq h2]; exact h3⟩
  | false =>
    refine opS_not.2 (fun q hq h2 h3 => ?_)
    rw [h q hq] at h2
    rw [hg q hq h2] at h3
    exact opS_not.1 e2 q hq h2 h3
def oldS (f g : Nat → Int) (n : Nat) : Int := match (List.range n).find? (opS f g) with | some s => (s : Int) | none => -1
theorem oldS_found {f g : Nat → Int} {n i : Nat} (hi : i < n) (h1 : opS f g i = true) (h : ∀ s, s < i → opS f g s = false) : oldS f g n = (i : Int) := by
  unfold oldS
  have e : (List.range n).find? (opS f g) = some i := by
    rw [List.find?_range_eq_some]
    exact ⟨h1, by simpa using hi, fun j hj => by rw [h j hj]; rfl⟩
  rw [e]
theorem oldS_none {f g : Nat → Int} {n : Nat} (h : ∀ s, s < n → opS f g s = false) : oldS f g n = -1 := by
  unfold oldS
  have e : (List.range n).find? (opS f g) = none := by
    rw [List.find?_eq_none]
    intro s hs
    rw [h s (List.mem_range.1 hs)]
    decide
  rw [e]
theorem oldS_min {f g : Nat → Int} {m : Int} (hi : OI f g) (h1 : ∃ th, th < 6 ∧ OPn f th = true ∧ g th = m) (h2 : ∀ th, th < 6 → OPn f th = true → m ≤ g th) : oldS f g (f 30).toNat = m := by
  obtain ⟨th, ht, ho, e⟩ := h1
  have hb := hi.b th ht ho
  obtain ⟨i, rfl⟩ : ∃ i : Nat, m = (i : Int) := ⟨m.toNat, by omega⟩
  refine oldS_found (by omega) (opS_iff.2 ⟨th, ht, ho, e⟩) (fun s hs => opS_not.2 (fun q hq hoq e2 => ?_))
  have := h2 q hq hoq
  omega
theorem oldS_no {f g : Nat → Int} {n : Nat} (h : ∀ th, th < 6 → OPn f th = false) : oldS f g n = -1 :=
  oldS_none (fun s _ => opS_not.2 (fun q hq ho _ => by rw [h q hq] at ho; cases ho))
end Go.Proofs.Ytmnmphkkcabkiaa

/-
  DERIVED: THE SHELF's CONTRACTS AT THIS DUMP, IN PLAIN WORDS (tools/lay-plain.mjs out of 'YtmnmphkkcabkiaaHuXSrc.lean', which tools/lay-shelf.mjs wrote): THE SAME DECLARATIONS UNDER THE SAME NAMES: 'import', 'namespace', 'open', 'def', 'theorem' AND NOTHING ELSE: no command of the shelf's: FOR A HAND-IN. Each laying: the table of numbers ('.._ren') and one theorem, a field a fact of the dump's own or the kernel's comparison; each contract: ONE APPLICATION.
-/
namespace Go.Proofs
open Go.Shelf
def Try.colV_ren : Go.Shelf.Ren := ⟨fun | 8 => 31 | 11 => 44 | n => n, fun | 26 => 2 | 28 => 82 | 24 => 79 | 0 => 0 | 33 => 100 | 4 => 4 | n => n, fun | n => n⟩
theorem Try.colV : Go.Proofs.SlLaysZI.n8 Try.prog Try.colV_ren := {
  mixed := by kernel_rfl
  f8 := ⟨Try.f31.name, by decide, Try.func31.trans (congrArg some (by kernel_rfl))⟩
  f11 := ⟨Try.f44.name, by decide, Try.func44.trans (congrArg some (by kernel_rfl))⟩
  t0 := Try.underlying0
  a0 := Try.isAgg0
  z0 := Try.sizeOf0
  v0 := Try.zeroValue0
  t24 := Try.underlying79
  a24 := Try.isAgg79
  z24 := Try.sizeOf79
  v24 := Try.zeroValue79
  t26 := Try.underlying2
  a26 := Try.isAgg2
  z26 := Try.sizeOf2
  v26 := Try.zeroValue2
  t28 := Try.underlying82
  a28 := Try.isAgg82
  z28 := Try.sizeOf82
  v28 := Try.zeroValue82
  i26 := by kernel_rfl }
end Go.Proofs

namespace Go.Proofs.Ytmnmphkkcabkiaa
open Go.RowKit Go.Maps Go.ChangeMaps Go.MapKept Go.WideShapes Go.Shelf
theorem underO : Try.prog.underlying 77 = some (.map 3 2) := by kernel_rfl
def VAll (m : Int → Option Value) (n : Nat) (xs : List Int) : Prop := (∀ x ∈ xs, ∃ k, I64 k ∧ m k = some (.int .i64 x)) ∧ (∀ k, I64 k → ∀ x, m k = some (.int .i64 x) → x ∈ xs) ∧ xs.length ≤ n
theorem MV.del {w : World} {mb n : Nat} {f : Int → Option Value} (h : MV w mb n f) {k : Int} (hk : I64 k) (hh : (f k).isSome = true) (ty : TypeId) :
    ∃ w', (Builtin.delete_ #[77, 3] ty #[.map (some mb), .int .i64 k]).run Try.prog w = .ok (.tuple #[]) w' ∧ MV w' mb (n - 1) (fun x => if x = k then none else f x) ∧ Keeps (fun i => i = mb) w w' := by
  obtain ⟨D, h1, h2, h3⟩ := h
  obtain ⟨w', hrun, hown, ht⟩ := h1.drop keyed underO (key_int hk) ty
  have hT := h1.tidy keyed
  have e := size_del (k := .int .i64 k) hT
  rw [(h3 k hk).1, hh, h2] at e
  simp at e
  refine ⟨w', hrun, ⟨D.del (.int .i64 k), ?_, ?_, fun x hx => ?_⟩, keeps_turned ht⟩
  · rw [show n - 1 = Maps.size (D.del (.int .i64 k)) by omega]
    exact tight hown
  · omega
  · by_cases c : x = k
    · subst c
      dsimp only
      rw [if_pos rfl, has_del_same]
      exact ⟨rfl, fun u hu => by cases hu⟩
    · dsimp only
      rw [if_neg c, has_del_other (ne_key c)]
      refine ⟨(h3 x hx).1, fun u hu z => ?_⟩
      rw [atKey_del_other (ne_key c)]
      exact (h3 x hx).2 u hu z
theorem same_int' (a b : Int) : (Lit.int .i64 a).sameKey (.int .i64 b) = decide (a = b) := by
  by_cases h : a = b
  · subst h
    simp [Lit.sameKey]
  · simp [Lit.sameKey, h]
set_option maxRecDepth 100000 in
set_option maxHeartbeats 1000000 in
theorem vals_gives {w : World} {n Bm b nn : Nat} {m : Int → Option Value} (hn : 1 ≤ n) (hBm : Bm < w.heap.size) (hm0 : w.cell? ⟨Bm, 0, none⟩ = some (.map (some b))) (hM : MV w b nn m) (hv : ∀ k, I64 k → ∀ u, m k = some u → ∃ x, u = .int .i64 x) : SeqGives Fence.wide n Try.prog 45 #[.pointer (some ⟨Bm, 0, none⟩)] encZ (VAll m nn) nn w := fun l J W hW hJ hY h0 => by
  obtain ⟨D, h1, h2, h3⟩ := hM
  have hbl := h1.lt
  have hown : W.ownsMap Try.prog 3 Rh b nn D := by
    obtain ⟨es, clock, hb, Ft, hs, hD⟩ := h1
    exact ⟨es, clock, (hW.block b hbl).trans hb, Ft, hs, hD⟩
  have hm : W.cell? ⟨Bm, 0, none⟩ = some (.map (some b)) := (hW.cell (p := ⟨Bm, 0, none⟩) hBm).trans hm0
  clear h1 hW hm0
  have HH : Hid (∀ k, I64 k → Maps.has D (.int .i64 k) = (m k).isSome ∧ ∀ u, m k = some u → ∀ z, D.atKey (.int .i64 k) z = .held u) := h3
  have HV : Hid (∀ k, I64 k → ∀ u, m k = some u → ∃ x, u = .int .i64 x) := hv
  clear h3 hv
  refine callsIn_of_wp Try.func45 rfl trivial ?_ rfl
  simp only [Try.ntmps45, List.size_toArray, List.length_cons, List.length_nil, Nat.reduceAdd, Nat.reduceSub, Array.replicate_succ, Array.replicate_zero, List.push_toArray, List.append_toArray, List.nil_append, List.cons_append]
  gi_wp2_with (first
    | (gi_at_range; refine wpListIn_range_own _ rfl _ 77 rfl 3 2 keyed underO Rh b nn D rfl hown ?_; intro w0 hrg0 hg0 hs0)
    | gi_in)
  go_frame
  rw [h2] at hrg0
  gi_loopw [4] (fun _ wr => ∃ (left : Lit → Bool) (cnt : Nat) (xs : List Int), wr.ranges Try.prog 3 Rh b W.heap.size nn D left cnt ∧ xs.length + cnt ≤ nn ∧ (∀ x ∈ xs, ∃ k, I64 k ∧ m k = some (.int .i64 x)) ∧ (∀ k, I64 k → ∀ x, m k = some (.int .i64 x) → left (.int .i64 k) = false → x ∈ xs) ∧ (∀ k, I64 k → left (.int .i64 k) = true → (m k).isSome = true) ∧ J xs wr)
    (fun _ wr => wr.rangeLeft b W.heap.size)
  case atStart =>
    refine ⟨_, _, [], hrg0, by simp, fun x hx => absurd hx (by simp), fun k hk x e h => ?_, fun k hk h => ?_, hJ [] W w0 none h0 hg0 (fun r e => by cases e)⟩
    · have := (HH.out k hk).1
      rw [e, h] at this
      cases this
    · rw [← (HH.out k hk).1]; exact h
  case round =>
    obtain ⟨left, cnt, xs, hrg, hcs, hC1, hC2, hC3, hJs⟩ := hrel
    have hle := hrg.left_eq
    gi_wp2_with (first
      | (gi_at_next; refine wpListIn_next_ranges _ rfl _ rfl 3 keyed Rh (Value.int .i64) id (fun key kl hk => by obtain ⟨x, rfl, _⟩ := Maps.keyOf_int_inv underI hk; exact ⟨x, rfl⟩) (fun v y _ => ⟨v, rfl⟩) b W.heap.size nn D left cnt rfl hrg ?_ ?_)
      | gi_in)
    · intro hc0 hl0
      gi_wp2
      go_end0
      exact ⟨⟨_, rfl⟩, xs, ⟨hC1, fun k hk x e => hC2 k hk x e (by rw [hl0]), by omega⟩, hJs⟩
    · intro x cv kl yd yp w2 cnt2 hkey hlk hy hat hrg2 hlt hg2 hs2 hen
      obtain ⟨x', ex, ek, hwx⟩ := Maps.keyOf_int_inv underI hkey
      injection ex with _ ex
      subst ex
      subst ek
      have hxi := i64_wf hwx
      obtain ⟨u, hu⟩ := Option.isSome_iff_exists.1 (hC3 x hxi hlk)
      obtain ⟨c, rfl⟩ := HV.out x hxi u hu
      have hcv : cv = .int .i64 c := by
        have e3 := (HH.out x hxi).2 _ hu (.held (.int .i64 0))
        rw [(hat (.held (.int .i64 0))).trans (congrArg Prod.fst (Option.some.inj hy)).symm] at e3
        exact DataW.held.inj e3
      subst hcv
      have hJ2 : J xs w2 := hJ _ wr w2 (some W.heap.size) hJs hg2 (fun r e => by cases e; exact ⟨Nat.le_refl _, hrg.iter_walk⟩)
      obtain ⟨fn, tmps, assign, body, hyl, hR⟩ := hY xs c w2 hJ2 (by omega)
      clear hs2
      gi_wp2
      refine hR.mono ?_
      rintro e W3 ⟨rfl, hJ3, hk3⟩
      gi_wp2
      have hrg3 := hrg2.of_walks hk3
      go_roundw
      case rel =>
        refine ⟨_, cnt2, xs ++ [c], hrg3, by simp; omega, fun z hz => ?_, fun k hk z e h => ?_, fun k hk h => ?_, hJ3⟩
        · rcases List.mem_append.1 hz with h | h
          · exact hC1 z h
          · rw [List.mem_singleton.1 h]; exact ⟨x, hxi, hu⟩
        · by_cases ek : k = x
          · subst ek
            rw [hu] at e
            have : c = z := by injection e with e; injection e
            simp [this]
          · rw [same_int', decide_eq_false ek] at h
            exact List.mem_append_left _ (hC2 k hk z e (by simpa using h))
        · simp only [Bool.and_eq_true] at h
          exact hC3 k hk h.1
      case measure => rw [hrg3.left_eq, hle]; exact hlt
set_option maxHeartbeats 1000000 in
set_option maxRecDepth 100000 in
theorem min_any {w : World} {base cap n : Nat} {a : Option Addr} {xs : List Int} (hO : w.ownsRow base 2 1 (.slice a n cap) n (xs.map encZ)) (hl : xs.length = n) (h0 : 0 < n) (hn : n ≤ 1000000) : Calls Try.prog 30 #[.slice a n cap] w fun e w' => ∃ m, e = .returned (.int .i64 m) ∧ m ∈ xs ∧ (∀ x ∈ xs, m ≤ x) ∧ w' = w := by
  obtain ⟨g, rfl⟩ : ∃ g, a = some ⟨g, 0, none⟩ := by
    rcases hO.2 with ⟨_, h0⟩ | ⟨g', _, _, e, _⟩
    · omega
    · injection e with e _ _
      exact ⟨g', e⟩
  have hC : ∀ i (h : i < n), w.cell? ⟨g, i, none⟩ = some (.int .i64 (xs[i]'(by omega))) := fun i h => (own_cl hO).c i _ (by rw [List.getElem?_map, List.getElem?_eq_getElem (by omega)]; rfl)
  have c0 := hC 0 h0
  have m1 : decide ((n : Int) < 1) = false := decide_eq_false (by omega)
  have m2 : (0 : Int) < (n : Int) := by omega
  go_enter Try.func30, Try.ntmps30
  go_wp2_with fail
  go_loopw [3, 4] (fun mv iv Wr => ∃ (i : Nat) (m : Int), mv = .int .i64 m ∧ iv = .int .i64 (i : Int) ∧ 1 ≤ i ∧ i ≤ n ∧ m ∈ xs ∧ (∀ (j : Nat) (h : j < i) (h' : j < xs.length), m ≤ xs[j]) ∧ Wr = w) (fun _ iv _ => n - (intOf iv).toNat)
  case atStart => exact ⟨1, _, rfl, rfl, Nat.le_refl _, h0, List.getElem_mem _, fun j h h' => (by have e : j = 0 := (by omega); subst e; exact Int.le_refl _), rfl⟩
  case round =>
    obtain ⟨i, m, rfl, rfl, hi1, hi2, hm1, hm2, rfl⟩ := hrel
    clear c0 m1 m2
    by_cases hin : i < n
    · have j1 : decide ((i : Int) < (n : Int)) = true := decide_eq_true (by omega)
      have j2 : decide (i < n) = true := decide_eq_true hin
      have j3 : (i : Int) < (n : Int) := by omega
      have j4 : (0 : Int) ≤ (i : Int) := by omega
      have hwi : IntKind.i64.wrap ((i : Int) + 1) = (i : Int) + 1 := by rw [IntKind.wrap_i64]; omega
      have ci := hC i hin
      obtain ⟨y, hy⟩ : ∃ y, y = xs[i]'(by omega) := ⟨_, rfl⟩
      rw [← hy] at ci
      obtain ⟨mm, hmm, h1, h2⟩ : ∃ mm, min m y = mm ∧ mm ∈ xs ∧ ∀ (j : Nat) (h : j < i + 1) (h' : j < xs.length), mm ≤ xs[j] := by
        refine ⟨_, rfl, ?_, fun j h h' => ?_⟩
        · by_cases c : m ≤ y
          · rw [Int.min_eq_left c]; exact hm1
          · rw [Int.min_eq_right (by omega), hy]; exact List.getElem_mem _
        · by_cases e : j = i
          · subst e
            rw [← hy]
            exact Int.min_le_right _ _
          · have := hm2 j (by omega) h'
            exact Int.le_trans (Int.min_le_left _ _) this
      clear hy hC
      go_wp2_with fail
      go_roundw
      case rel => exact ⟨i + 1, mm, rfl, by go_num, by omega, by omega, h1, h2, trivial⟩
      case measure => simp [intOf]; omega
    · have j1 : decide ((i : Int) < (n : Int)) = false := decide_eq_false (by omega)
      have j2 : decide (i < n) = false := decide_eq_false hin
      go_wp2_with fail
      go_ret
      refine ⟨m, rfl, hm1, fun x hx => ?_, rfl⟩
      obtain ⟨j, hj, rfl⟩ := List.getElem_of_mem hx
      exact hm2 j (by omega) hj
end Go.Proofs.Ytmnmphkkcabkiaa

