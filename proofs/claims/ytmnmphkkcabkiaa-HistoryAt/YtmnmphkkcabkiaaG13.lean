import Derived.Test.YtmnmphkkcabkiaaG12
import Derived.Maps.RangeWalk
import Derived.Lib.Small
import Derived.Shelf.SlSortCmp.WholeK
import Derived.Ground.SlsfProg
namespace Go.Proofs.Ytmnmphkkcabkiaa
open Go.RowKit Go.Maps Go.ChangeMaps Go.MapKept Go.WideShapes
attribute [local go_sem] Oper.semAt_some run_store_nf run_store_f
theorem ranges_keep {w w' : World} {P : Program} {k : TypeId} {R : Value → Option (DataW Value × List MemPlace)} {b r n : Nat} {D : DataW Value} {left : Lit → Bool} {cnt : Nat} {S : Nat → Prop} (h : w.ranges P k R b r n D left cnt) (kk : Keeps S w w') (h1 : ¬ S b) (h2 : ¬ S r) : w'.ranges P k R b r n D left cnt := by
  have e1 := kk.block b h.owns.lt h1
  have e2 := kk.block r h.lt h2
  obtain ⟨es, clock, since, seen, c0, hb, F, hs, hD, hr, rest⟩ := h
  exact ⟨es, clock, since, seen, c0, e1.trans hb, F, hs, hD, e2.trans hr, rest⟩
theorem wof_mem {o : Int} {u : Value} : ∀ {l : List Wo}, wof l o = some u → ∃ y ∈ l, y.object = o ∧ y.val = u
  | [], h => by cases h
  | y :: l, h => by
    unfold wof at h
    by_cases e : y.object = o
    · rw [if_pos e] at h
      exact ⟨y, by simp, e, Option.some.inj h⟩
    · rw [if_neg e] at h
      obtain ⟨z, hz, h1, h2⟩ := wof_mem h
      exact ⟨z, by simp [hz], h1, h2⟩
structure GA (ws ls : List Wo) (left : Lit → Bool) : Prop where
  e : ∀ o, I64 o → wof ls o = if left (.int .i64 o) = true then none else wof ws o
  d : ls.Pairwise (fun x y => x.object ≠ y.object)
  i : ∀ x ∈ ls, I64 x.object
  l : ∀ o, left (.int .i64 o) = true → I64 o → (wof ws o).isSome = true
theorem GA.next {ws ls : List Wo} {left : Lit → Bool} (h : GA ws ls left) {y : Wo} (hy : I64 y.object) (hl : left (.int .i64 y.object) = true) (hv : wof ws y.object = some y.val) : GA ws (ls ++ [y]) (fun z => left z && !z.sameKey (.int .i64 y.object)) := by
  refine ⟨fun o ho => ?_, ?_, fun x hx => ?_, fun o h1 h2 => ?_⟩
  · rw [wof_app, h.e o ho]
    show (if left (.int .i64 o) = true then none else wof ws o).or (if y.object = o then some y.val else none) = _
    by_cases e : y.object = o
    · subst e
      have s1 : (Lit.int .i64 y.object).sameKey (.int .i64 y.object) = true := WideAt.sameKey_self trivial
      rw [if_pos hl, if_pos rfl]
      simp [s1, hv]
    · have s1 : (Lit.int .i64 o).sameKey (.int .i64 y.object) = false := sameKey_ne (ne_key (fun h => e h.symm))
      rw [if_neg e]
      simp [s1]
  · refine List.pairwise_append.2 ⟨h.d, List.pairwise_cons.2 ⟨fun _ h => by simp at h, List.Pairwise.nil⟩, fun x hx z hz => ?_⟩
    have hz : z = y := by simpa using hz
    subst hz
    intro e
    have h1 := h.e z.object hy
    rw [if_pos hl] at h1
    have : ∀ {m : List Wo}, x ∈ m → wof m z.object ≠ none := fun {m} => by
      induction m with
      | nil => intro hm; simp at hm
      | cons q m ih =>
        intro hm
        unfold wof
        by_cases c : q.object = z.object
        · rw [if_pos c]; simp
        · rw [if_neg c]
          rcases List.mem_cons.1 hm with rfl | hm
          · exact absurd e c
          · exact ih hm
    exact this hx h1
  · rcases List.mem_append.1 hx with hx | hx
    · exact h.i x hx
    · have hx : x = y := by simpa using hx
      rw [hx]
      exact hy
  · simp at h1
    exact h.l o h1.1 h2
theorem GA.first {ws : List Wo} {left : Lit → Bool} (h : ∀ o, I64 o → left (.int .i64 o) = (wof ws o).isSome) : GA ws [] left := by
  refine ⟨fun o ho => ?_, List.Pairwise.nil, fun _ h => by simp at h, fun o h1 h2 => by rw [← h o h2]; exact h1⟩
  show none = _
  by_cases e : left (.int .i64 o) = true
  · rw [if_pos e]
  · rw [if_neg e]
    have := h o ho
    cases hw : wof ws o with
    | none => rfl
    | some u =>
      rw [hw] at this
      exact absurd this e
theorem one_val (y : Wo) : #[Value.int .i64 y.vN, .int .i64 y.vX, .bool y.vD].all (·.oneCell') = true := all_oneCell_toArray (cs := [Value.int .i64 y.vN, .int .i64 y.vX, .bool y.vD]) (by simp [Value.oneCell'])
theorem i64_wf {x : Int} (h : (Lit.int .i64 x).wf = true) : I64 x := by
  simp [Lit.wf, IntKind.min, IntKind.max, IntKind.bits, IntKind.signed] at h
  unfold I64
  omega
def tlT2 (f : Func) : Code := match f.body with | some (.seq _ (.seq _ t)) => t | _ => .skip
def tlT3 (f : Func) : Code := match f.body with | some (.seq _ (.seq _ (.seq _ t))) => t | _ => .skip
end Go.Proofs.Ytmnmphkkcabkiaa

namespace Go.Proofs.Ytmnmphkkcabkiaa
open Go.RowKit
end Go.Proofs.Ytmnmphkkcabkiaa

namespace Go.Proofs.Ytmnmphkkcabkiaa
open Go.RowKit
theorem fit_rel {f : Nat → Int} {r : Rw} {th : Nat} (h : fitP f r th = true) (hk : r.kind = 4) : -1 ≤ r.entry := by
  unfold fitP at h
  rw [if_neg (by omega)] at h
  split at h
  · cases h
  · rw [if_neg (by omega), if_neg (by omega), if_neg (by omega)] at h
    simp only [Bool.and_eq_true] at h
    have h1 := h.2
    unfold readP at h1
    split at h1
    · cases h1
    · simp only [Bool.and_eq_true, decide_eq_true_eq] at h1
      exact h1.1.2
def cK (l : List Rw) : Nat → Nat → Int → Nat
  | 0 => fun _ _ => 0
  | k + 1 => fun i => if ofD (l.getD k rw0).kind = true ∧ ((l.getD k rw0).no - 1).toNat = i then relC (cK l k i) (l.getD k rw0) else cK l k i
def relG (c : Int → Nat) (s : Sw) : Sw := if 0 < c s.entry then { s with rel := true } else s
theorem relG_entry (c : Int → Nat) (s : Sw) : (relG c s).entry = s.entry := by
  unfold relG
  split <;> rfl
theorem relG_next (c : Int → Nat) (e : Int) (s : Sw) : relS e (relG c s) = relG (fun x => if x = e then c x + 1 else c x) s := by
  unfold relS
  rw [relG_entry]
  by_cases h : s.entry = e
  · have e1 : relG (fun x => if x = e then c x + 1 else c x) s = { s with rel := true } := if_pos (by
      show 0 < (if s.entry = e then c s.entry + 1 else c s.entry)
      rw [if_pos h]
      omega)
    rw [if_pos h, e1]
    unfold relG
    split <;> rfl
  · rw [if_neg h]
    unfold relG
    simp [h]
theorem relG_none (s : Sw) : relG (fun _ => 0) s = s := by
  exact if_neg (Nat.lt_irrefl 0)
theorem map_none (l : List Sw) : l.map (relG (fun _ => 0)) = l := by
  rw [List.map_congr_left (g := id) (fun s _ => relG_none s)]
  simp
theorem rlK_saws {l : List Rw} {ts : List Tv} {n : Nat} (hE : ∀ k, k < n → (l.getD k rw0).kind = 4 → -1 ≤ (l.getD k rw0).entry) : ∀ k, k ≤ n → ∀ i, i < ts.length → (rlK l ts k).getD i tv0 = { ts.getD i tv0 with saws := (ts.getD i tv0).saws.map (relG (cK l k i)) }
  | 0, _, i, _ => by
    show ts.getD i tv0 = { ts.getD i tv0 with saws := (ts.getD i tv0).saws.map (relG (fun _ => 0)) }
    rw [map_none]
  | k + 1, hk, i, hi => by
    have ih := rlK_saws hE k (by omega) i hi
    have he := hE k (by omega)
    show (relR (rlK l ts k) (l.getD k rw0)).getD i tv0 = { ts.getD i tv0 with saws := (ts.getD i tv0).saws.map (relG (if ofD (l.getD k rw0).kind = true ∧ ((l.getD k rw0).no - 1).toNat = i then relC (cK l k i) (l.getD k rw0) else cK l k i)) }
    generalize l.getD k rw0 = r at *
    unfold relR
    by_cases h4 : r.kind = 4 ∧ 0 ≤ r.entry
    · rw [if_pos h4]
      have hof : ofD r.kind = true := by rw [h4.1]; rfl
      by_cases hj : (r.no - 1).toNat = i
      · rw [if_pos ⟨hof, hj⟩, hj, getD_set_eq (by rw [rlK_len]; exact hi), ih]
        dsimp only
        rw [List.map_map]
        have e : relC (cK l k i) r = fun x => if x = r.entry then cK l k i x + 1 else cK l k i x := by
          unfold relC
          rw [if_pos ⟨h4.1, by omega⟩]
        rw [e]
        congr 1
        exact List.map_congr_left (fun s _ => relG_next _ _ _)
      · rw [if_neg (fun e => hj e.2), getD_set_ne (fun e => hj e.symm)]
        exact ih
    · rw [if_neg h4]
      have e : (if ofD r.kind = true ∧ (r.no - 1).toNat = i then relC (cK l k i) r else cK l k i) = cK l k i := by
        split
        · unfold relC
          rw [if_neg (fun e => h4 ⟨e.1, by have := he e.1; omega⟩)]
        · rfl
      rw [e]
      exact ih
end Go.Proofs.Ytmnmphkkcabkiaa

namespace Go.Proofs.Ytmnmphkkcabkiaa
open Go.RowKit Go.WideShapes
attribute [local go_sem] Oper.semAt_some run_store_nf run_store_f
def telG (c : Int → Nat) (s : Sw) : Sw := { s with rel := decide (0 < c s.entry) }
def tgJ (c : Int → Nat) (l : List Sw) (j : Nat) : List Sw := (l.take j).map (telG c) ++ l.drop j
structure ST (p q rb n sb : Nat) (la lq : List Value) (s : Sw) (c : Int → Nat) (W : World) : Prop where
  a : CL W p la
  q : CL W q lq
  s : CL W sb s.cells
  m : MV W rb n (cf c)
def atT2 (f : Func) : Code := match f.body with | some (.seq _ (.seq _ t)) => t | _ => .skip
def atT3 (f : Func) : Code := match f.body with | some (.seq _ (.seq _ (.seq _ t))) => t | _ => .skip
end Go.Proofs.Ytmnmphkkcabkiaa

namespace Go.Proofs.Ytmnmphkkcabkiaa
open Go.RowKit Go.WideShapes
attribute [local go_sem] Oper.semAt_some run_store_nf run_store_f
end Go.Proofs.Ytmnmphkkcabkiaa

namespace Go.Proofs.Ytmnmphkkcabkiaa
open Go.RowKit
theorem folP_no {f : Nat → Int} {r : Rw} {q : Nat} (hk : r.kind ≠ 0) : folP f r q (q * 5 + 3) = r.no := by
  rw [folP_at hk (by omega) (by omega)]
  have g : fol1 f r q (q * 5 + 3) = r.no := by unfold fol1; rw [up_at]
  unfold fol2
  split
  · rw [up_ne (by omega), up_ne (by omega), up_ne (by omega), up_ne (by omega)]; exact g
  · split
    · rw [up_ne (by omega), up_ne (by omega), up_ne (by omega)]; exact g
    · split
      · rw [up_ne (by omega)]; exact g
      · exact g
theorem folP_other {f : Nat → Int} {r : Rw} {th q o : Nat} (hk : r.kind ≠ 0) (hq : q < 6) (e : q ≠ th) (ho : o < 5) : folP f r th (q * 5 + o) = f (q * 5 + o) := by
  rw [folP_at hk (by omega) (by omega)]
  have g : fol1 f r th (q * 5 + o) = f (q * 5 + o) := by unfold fol1; rw [up_ne (by omega), up_ne (by omega), up_ne (by omega)]
  unfold fol2
  split
  · rw [up_ne (by omega), up_ne (by omega), up_ne (by omega), up_ne (by omega)]; exact g
  · split
    · rw [up_ne (by omega), up_ne (by omega), up_ne (by omega)]; exact g
    · split
      · rw [up_ne (by omega)]; exact g
      · exact g
theorem fit_no {f : Nat → Int} {r : Rw} {th : Nat} (h : fitP f r th = true) (h0 : r.kind ≠ 0) (h1 : r.kind ≠ 1) (h2 : r.kind ≠ 2) : r.no = f (th * 5 + 3) ∧ f (th * 5) ≠ 0 := by
  unfold fitP at h
  rw [if_neg h0] at h
  split at h
  · cases h
  · split at h
    · simp only [Bool.and_eq_true, eq3_iff, beq_iff_eq] at h
      obtain ⟨⟨a, _, _, b⟩, _⟩ := h
      exact ⟨b, by rw [a]; decide⟩
    · simp only [Bool.and_eq_true, eq3_iff, beq_iff_eq] at h
      obtain ⟨⟨⟨⟨_, a⟩, _, _, b⟩, _⟩, _⟩ := h
      exact ⟨b, by rw [a]; decide⟩
theorem addD_stamp (t : Tv) (r : Rw) : (addD t r).stamp = t.stamp := by
  unfold addD addW addS addE addF
  repeat (first | rfl | split)
theorem stamp_inv {l : List Rw} (h : fstP l 0 (f0 6) = none) : ∀ k, k ≤ l.length → ∀ th, th < 6 → fAt l k (th * 5) ≠ 0 → ((txK l k).1.getD (fAt l k (th * 5 + 3) - 1).toNat tv0).stamp = (txK l k).2 th
  | 0, _, th, ht, h0 => by
    refine absurd ?_ h0
    show f0 6 (th * 5) = 0
    unfold f0
    rw [if_neg (by omega)]
  | k + 1, hk, th, ht, h0 => by
    have ih := stamp_inv h k (by omega) th ht
    have hvi := txK_vi h k (by omega)
    have hfit := (row_ok h (show k < l.length by omega)).2
    have hro := hvi.row hfit
    show ((stT (txK l k) (l.getD k rw0)).1.getD (folP (fAt l k) (l.getD k rw0) (l.getD k rw0).thread.toNat (th * 5 + 3) - 1).toNat tv0).stamp = (stT (txK l k) (l.getD k rw0)).2 th
    have h0' : folP (fAt l k) (l.getD k rw0) (l.getD k rw0).thread.toNat (th * 5) ≠ 0 := h0
    clear h0
    generalize l.getD k rw0 = r at *
    generalize txK l k = s at *
    generalize fAt l k = f at *
    by_cases hk0 : r.kind = 0
    · have e1 : folP f r r.thread.toNat = f := by unfold folP; rw [if_pos hk0]
      have e2 : stT s r = s := by
        unfold stT
        rw [if_neg (by omega), if_neg (by omega), if_neg (by rw [hk0]; decide)]
      rw [e1] at h0' ⊢
      rw [e2]
      exact ih h0'
    have hth := hro.th hk0
    obtain ⟨tr, etr⟩ : ∃ tr, r.thread.toNat = tr := ⟨_, rfl⟩
    have htr : tr < 6 := by omega
    rw [etr] at h0' hfit ⊢
    by_cases hq : th = tr
    · subst hq
      rw [folP_no hk0]
      by_cases h1 : r.kind = 1
      · have hno := (hro.b (.inl h1)).1
        unfold stT
        rw [if_pos h1, hno, show ((s.1.length : Int) + 1 - 1).toNat = s.1.length by omega]
        dsimp only
        rw [getD_app_right, etr, up_at]
        rfl
      by_cases h2 : r.kind = 2
      · have hno := (hro.b (.inr h2)).1
        unfold stT
        rw [if_neg h1, if_pos h2, hno, show ((s.1.length : Int) + 1 - 1).toNat = s.1.length by omega]
        dsimp only
        rw [getD_app_right, etr]
        rfl
      obtain ⟨hno, hst⟩ := fit_no hfit hk0 h1 h2
      have ih := ih hst
      rw [← hno] at ih
      unfold stT
      rw [if_neg h1, if_neg h2]
      by_cases hof : ofD r.kind = true
      · rw [if_pos hof]
        dsimp only
        have hb := hro.o hof
        rw [getD_set_eq (by omega), addD_stamp]
        exact ih
      · rw [if_neg hof]
        exact ih
    · have e0 := folP_other (f := f) (r := r) (o := 0) hk0 ht hq (by omega)
      rw [Nat.add_zero] at e0
      rw [e0] at h0'
      rw [folP_other hk0 ht hq (by omega)]
      have ih := ih h0'
      have hb := hvi.t th ht h0'
      unfold stT
      by_cases h1 : r.kind = 1
      · rw [if_pos h1]
        dsimp only
        rw [getD_app_left (by omega), etr, up_ne hq]
        exact ih
      rw [if_neg h1]
      by_cases h2 : r.kind = 2
      · rw [if_pos h2]
        dsimp only
        rw [getD_app_left (by omega)]
        exact ih
      rw [if_neg h2]
      by_cases hof : ofD r.kind = true
      · rw [if_pos hof]
        dsimp only
        by_cases e : (f (th * 5 + 3) - 1).toNat = (r.no - 1).toNat
        · rw [← e, getD_set_eq (by omega), addD_stamp]
          exact ih
        · rw [getD_set_ne e]
          exact ih
      · rw [if_neg hof]
        exact ih
end Go.Proofs.Ytmnmphkkcabkiaa

/-
  DERIVED: THE SHELF's CONTRACTS AT THIS DUMP, IN PLAIN WORDS (tools/lay-plain.mjs out of 'YtmnmphkkcabkiaaHtXSrc.lean', which tools/lay-shelf.mjs wrote): THE SAME DECLARATIONS UNDER THE SAME NAMES: 'import', 'namespace', 'open', 'def', 'theorem' AND NOTHING ELSE: no command of the shelf's: FOR A HAND-IN. Each laying: the table of numbers ('.._ren') and one theorem, a field a fact of the dump's own or the kernel's comparison; each contract: ONE APPLICATION.
-/
namespace Go.Proofs
open Go.Shelf
def Try.sortW_ren : Go.Shelf.Ren := ⟨fun | 6 => 57 | 15 => 63 | 14 => 62 | 28 => 73 | 29 => 74 | 20 => 65 | 21 => 66 | 22 => 67 | 23 => 68 | 24 => 69 | 25 => 70 | 26 => 71 | 27 => 72 | 46 => 75 | 47 => 76 | 48 => 77 | 49 => 78 | 50 => 79 | 57 => 80 | n => n, fun | 22 => 40 | 24 => 46 | 25 => 118 | 3 => 3 | 39 => 125 | 0 => 0 | 53 => 135 | 55 => 137 | 4 => 4 | 46 => 128 | 45 => 127 | 50 => 132 | 5 => 5 | 9 => 9 | 66 => 138 | 70 => 142 | 76 => 144 | 77 => 84 | n => n, fun | n => n⟩
end Go.Proofs

namespace Go.Proofs.Ytmnmphkkcabkiaa
open Go.RowKit Go.WideShapes
end Go.Proofs.Ytmnmphkkcabkiaa

namespace Go.Proofs.Ytmnmphkkcabkiaa
open Go.RowKit
theorem PA.more {base p wb rb m m' : Nat} {W : World} {t : Tv} {sv : Value} {c : Int → Nat} (h : PA base W p t sv wb rb c m) (hm : m ≤ m') : PA base W p t sv wb rb c m' :=
  ⟨h.cl, h.s, h.w, h.i, (by obtain ⟨n, h1, h2⟩ := h.r; exact ⟨n, by omega, h2⟩), h.n1, h.n2, h.n3, h.sb, fun k => Nat.le_trans (h.cm k) hm, Nat.le_trans h.ls.1 hm, Nat.le_trans h.ls.2 hm⟩
def pcl (pb : Nat → Nat) (n : Nat) : List Value := (List.range n).map (fun i => .pointer (some ⟨pb i, 0, none⟩))
theorem pcl_succ (pb : Nat → Nat) (n : Nat) : pcl pb (n + 1) = pcl pb n ++ [.pointer (some ⟨pb n, 0, none⟩)] := by
  unfold pcl
  rw [List.range_succ, List.map_append]
  rfl
theorem pcl_congr {pb pb' : Nat → Nat} {n : Nat} (h : ∀ i, i < n → pb i = pb' i) : pcl pb n = pcl pb' n := by
  unfold pcl
  exact List.map_congr_left (fun i hi => by rw [h i (List.mem_range.1 hi)])
structure AT (base : Nat) (W : World) (v : Value) (n : Nat) (pb : Nat → Nat) (T : Nat → Tv) (sv : Nat → Value) (wb rb : Nat → Nat) (c : Nat → Int → Nat) (ρ : Nat → Nat) (m : Nat) : Prop where
  o : W.ownsRow base 71 1 v n (pcl pb n)
  a : ∀ i, i < n → PA base W (pb i) (T i) (sv i) (wb i) (rb i) (c i) m
  r0 : ∀ b, v.ownBlock = some b → ρ b = 1
  rp : ∀ i, i < n → ρ (pb i) = 2 + 4 * i
  rw : ∀ i, i < n → ρ (wb i) = 3 + 4 * i
  rr : ∀ i, i < n → ρ (rb i) = 4 + 4 * i
  rs : ∀ i, i < n → ∀ b, (sv i).ownBlock = some b → ρ b = 5 + 4 * i
  gb : ∀ i, i < n → base ≤ pb i ∧ base ≤ wb i ∧ base ≤ rb i
  bb : base ≤ W.heap.size
theorem AT.first (W : World) (pb : Nat → Nat) (T : Nat → Tv) (sv : Nat → Value) (wb rb : Nat → Nat) (c : Nat → Int → Nat) (ρ : Nat → Nat) (m : Nat) : AT W.heap.size W (.slice none 0 0) 0 pb T sv wb rb c ρ m :=
  ⟨World.ownsRow_nil _ _ _ _, fun i hi => by omega, (fun b e => by cases e), fun i hi => by omega, fun i hi => by omega, fun i hi => by omega, fun i hi => by omega, fun i hi => by omega, Nat.le_refl _⟩
theorem AT.keepB {base n m : Nat} {W W' : World} {v : Value} {pb wb rb : Nat → Nat} {T : Nat → Tv} {sv : Nat → Value} {c : Nat → Int → Nat} {ρ : Nat → Nat} (h : AT base W v n pb T sv wb rb c ρ m) {S : Nat → Prop} (k : Keeps S W W') (hS : ∀ i, base ≤ i → i < W.heap.size → ¬ S i) : AT base W' v n pb T sv wb rb c ρ m :=
  ⟨k.owns h.o (fun b e e' => hS b (owns_baseT h.o b e) (owns_lt' h.o b e) e'), fun i hi => (h.a i hi).keep k (hS _ (h.gb i hi).1 ((h.a i hi).cl.lt (by show 0 < 13; decide))) (hS _ (h.gb i hi).2.1 (h.a i hi).w.lt) (hS _ (h.gb i hi).2.2 (by obtain ⟨_, _, h2⟩ := (h.a i hi).r; exact h2.lt)) (fun b e => hS b (owns_baseT (h.a i hi).s b e) (owns_lt' (h.a i hi).s b e)), h.r0, h.rp, h.rw, h.rr, h.rs, h.gb, Nat.le_trans h.bb k.size⟩
end Go.Proofs.Ytmnmphkkcabkiaa

namespace Go.Proofs.Ytmnmphkkcabkiaa
open Go.RowKit Go.Shelf Go.Lib Go.Sort Go.WideShapes
instance : Inhabited Wo := ⟨⟨0, 0, 0, false⟩⟩
end Go.Proofs.Ytmnmphkkcabkiaa

namespace Go.Proofs.Ytmnmphkkcabkiaa
open Go.RowKit Go.Shelf Go.Lib Go.Sort Go.WideShapes
end Go.Proofs.Ytmnmphkkcabkiaa

namespace Go.Proofs.Ytmnmphkkcabkiaa
open Go.RowKit Go.WideShapes
attribute [local go_sem] Oper.semAt_some run_store_nf run_store_f
def SortNone : Prop := ∀ w, Calls Try.prog 57 #[.slice none 0 0, .func (.func 58) #[] #[]] w fun e w' => e = .returned (.tuple #[]) ∧ w' = w
end Go.Proofs.Ytmnmphkkcabkiaa

namespace Go.Proofs.Ytmnmphkkcabkiaa
open Go.RowKit
theorem uPa : Try.prog.underlying 69 = some (.slice 71) := by kernel_rfl
theorem iPa : (Try.prog.info? 71).map (fun i => (i.zero, i.size, i.bytes)) = some (some (.pointer none), 1, 8) := by kernel_rfl
theorem PA.base {base base' p wb rb m : Nat} {W : World} {t : Tv} {c : Int → Nat} (h : PA base W p t nilv wb rb c m) (hs : t.saws = []) : PA base' W p t nilv wb rb c m :=
  ⟨h.cl, by rw [hs]; exact World.ownsRow_nil _ _ _ _, h.w, h.i, h.r, h.n1, h.n2, h.n3, h.sb, h.cm, h.ls⟩
theorem AT.add {base n m : Nat} {W0 W : World} {v : Value} {pb wb rb : Nat → Nat} {T : Nat → Tv} {sv : Nat → Value} {c : Nat → Int → Nat} {ρ : Nat → Nat} (h0 : AT base W0 v n pb T sv wb rb c ρ m) {S : Nat → Prop} (k : Keeps S W0 W) (hS : ∀ i, base ≤ i → ¬ S i) {p wbn rbn : Nat} {t : Tv} {cn : Int → Nat} (hp : PA W0.heap.size W p t nilv wbn rbn cn m) (g1 : W0.heap.size ≤ p) (g2 : W0.heap.size ≤ wbn) (g3 : W0.heap.size ≤ rbn) (hs : t.saws = []) (hk : (n + 1) * 8 ≤ 140737488355328) :
    ∃ v' W', (Builtin.append_ #[69, 69] 69 #[v, .slice (some ⟨W.heap.size, 0, none⟩) 1 1]).run Try.prog (W.alloc (.cells #[.pointer (some ⟨p, 0, none⟩)] 71)) = .ok v' W' ∧
      AT base W' v' (n + 1) (fun i => if i = n then p else pb i) (fun i => if i = n then t else T i) (fun i => if i = n then nilv else sv i) (fun i => if i = n then wbn else wb i) (fun i => if i = n then rbn else rb i) (fun i => if i = n then cn else c i) (fun b => if b < W0.heap.size then ρ b else if b = p then 2 + 4 * n else if b = wbn then 3 + 4 * n else if b = rbn then 4 + 4 * n else 1) m ∧ Keeps (fun i => v.ownBlock = some i) W W' := by
  have h := h0.keepB k (fun i h1 _ => hS i h1)
  obtain ⟨v', W', hr, ho, kk, hbl⟩ := append_sz uPa iPa rfl (by decide) h.o h.bb (by decide) hk [.pointer (some ⟨p, 0, none⟩)] rfl (fun u hu => by
    simp at hu
    rw [hu]
    rfl)
  have lp : p < W.heap.size := hp.cl.lt (by show 0 < 13; decide)
  have lw := hp.w.lt
  have lr : rbn < W.heap.size := by obtain ⟨_, _, h2⟩ := hp.r; exact h2.lt
  have l0 : ∀ b, v.ownBlock = some b → b < W0.heap.size := fun b e => owns_lt' h0.o b e
  have hzz := k.size
  have hbb := h0.bb
  have n1 := hp.n1
  have n2 := hp.n2
  have n3 := hp.n3
  have kp := hp.keep kk (fun e => by have := l0 _ e; omega) (fun e => by have := l0 _ e; omega) (fun e => by have := l0 _ e; omega) (fun b e => by cases e)
  refine ⟨v', W', hr, ⟨?_, fun i hi => ?_, fun b e => ?_, fun i hi => ?_, fun i hi => ?_, fun i hi => ?_, fun i hi b e => ?_, fun i hi => ?_, Nat.le_trans h.bb kk.size⟩, kk⟩
  · rw [pcl_succ, if_pos rfl, pcl_congr (pb' := pb) (fun i hi => if_neg (by omega))]
    exact ho
  · by_cases e : i = n
    · subst e
      rw [if_pos rfl, if_pos rfl, if_pos rfl, if_pos rfl, if_pos rfl, if_pos rfl]
      exact kp.base hs
    · rw [if_neg e, if_neg e, if_neg e, if_neg e, if_neg e, if_neg e]
      have hi' : i < n := by omega
      have key : ∀ b x, ρ b = x + 4 * i → 2 ≤ x → ¬ v.ownBlock = some b := fun b x hx h2 e => by have := h.r0 b e; omega
      exact (h.a i hi').keep kk (key _ 2 (h.rp i hi') (by omega)) (key _ 3 (h.rw i hi') (by omega)) (key _ 4 (h.rr i hi') (by omega)) (fun b e => key b 5 (h.rs i hi' b e) (by omega))
  · rcases hbl with hb | hb
    · rw [hb] at e
      rw [if_pos (l0 b e)]
      exact h.r0 b e
    · rw [hb] at e
      have e := Option.some.inj e
      rw [if_neg (by omega), if_neg (by omega), if_neg (by omega), if_neg (by omega)]
  · by_cases e : i = n
    · subst e
      rw [if_pos rfl, if_neg (by omega), if_pos rfl]
    · have hi' : i < n := by omega
      rw [if_neg e, if_pos ((h0.a i hi').cl.lt (by show 0 < 13; decide))]
      exact h.rp i hi'
  · by_cases e : i = n
    · subst e
      rw [if_pos rfl, if_neg (by omega), if_neg n1, if_pos rfl]
    · have hi' : i < n := by omega
      rw [if_neg e, if_pos (h0.a i hi').w.lt]
      exact h.rw i hi'
  · by_cases e : i = n
    · subst e
      rw [if_pos rfl, if_neg (by omega), if_neg n2, if_neg (fun e => n3 e.symm), if_pos rfl]
    · have hi' : i < n := by omega
      have : rb i < W0.heap.size := by obtain ⟨_, _, h2⟩ := (h0.a i hi').r; exact h2.lt
      rw [if_neg e, if_pos this]
      exact h.rr i hi'
  · by_cases e' : i = n
    · subst e'
      rw [if_pos rfl] at e
      cases e
    · have hi' : i < n := by omega
      rw [if_neg e'] at e
      rw [if_pos (owns_lt' (h0.a i hi').s b e)]
      exact h.rs i hi' b e
  · by_cases e : i = n
    · subst e
      rw [if_pos rfl, if_pos rfl, if_pos rfl]
      exact ⟨by omega, by omega, by omega⟩
    · rw [if_neg e, if_neg e, if_neg e]
      exact h.gb i (by omega)
end Go.Proofs.Ytmnmphkkcabkiaa

namespace Go.Proofs.Ytmnmphkkcabkiaa
open Go.RowKit
theorem AT.congr {base n m : Nat} {W : World} {v : Value} {pb wb rb : Nat → Nat} {T T' : Nat → Tv} {sv : Nat → Value} {c c' : Nat → Int → Nat} {ρ : Nat → Nat} (h : AT base W v n pb T sv wb rb c ρ m) (h1 : ∀ i, i < n → T i = T' i) (h2 : ∀ i, i < n → c i = c' i) : AT base W v n pb T' sv wb rb c' ρ m :=
  ⟨h.o, fun i hi => by rw [← h1 i hi, ← h2 i hi]; exact h.a i hi, h.r0, h.rp, h.rw, h.rr, h.rs, h.gb, h.bb⟩
theorem AT.more {base n m m' : Nat} {W : World} {v : Value} {pb wb rb : Nat → Nat} {T : Nat → Tv} {sv : Nat → Value} {c : Nat → Int → Nat} {ρ : Nat → Nat} (h : AT base W v n pb T sv wb rb c ρ m) (hm : m ≤ m') : AT base W v n pb T sv wb rb c ρ m' :=
  ⟨h.o, fun i hi => (h.a i hi).more hm, h.r0, h.rp, h.rw, h.rr, h.rs, h.gb, h.bb⟩
end Go.Proofs.Ytmnmphkkcabkiaa

namespace Go.Proofs.Ytmnmphkkcabkiaa
open Go.RowKit
structure VB (w : World) (b n : Nat) (f : Nat → Value) : Prop where
  c : ∀ o, o < n → w.cell? ⟨b, o, none⟩ = some (f o)
  z : ∀ o, o < n → w.frozen? ⟨b, o, none⟩ = false
theorem VB.of {w : World} {b : Nat} {l : List Value} (h : CL w b l) {f : Nat → Value} (hf : ∀ o, o < l.length → l[o]? = some (f o)) : VB w b l.length f := ⟨fun o ho => h.c o _ (hf o ho), h.z⟩
theorem VB.lt {w : World} {b n : Nat} {f : Nat → Value} (h : VB w b n f) (hn : 0 < n) : b < w.heap.size := World.block_lt_of_cell? _ _ (h.c 0 hn)
theorem VB.made (w : World) (n : Nat) (v : Value) (t : TypeId) : VB (w.alloc (.cells (List.replicate n v).toArray t)) w.heap.size n (fun _ => v) := by
  have h := CL.made w (List.replicate n v) t
  have h2 := VB.of h (f := fun _ => v) (fun o ho => by
    rw [List.length_replicate] at ho
    rw [List.getElem?_replicate, if_pos ho])
  rw [List.length_replicate] at h2
  exact h2
def PR (f : Nat → Int) (Q : Nat → Value) (pb : Nat → Nat) : Prop := ∀ th, th < 6 → f (th * 5) ≠ 0 → Q th = .pointer (some ⟨pb (f (th * 5 + 3) - 1).toNat, 0, none⟩)
theorem PR.start (Q : Nat → Value) (pb : Nat → Nat) : PR (f0 6) Q pb := fun th ht h0 => by
  refine absurd ?_ h0
  unfold f0
  rw [if_neg (by omega)]
theorem PR.begin {f : Nat → Int} {Q : Nat → Value} {pb : Nat → Nat} {n p tr : Nat} {r : Rw} (h : PR f Q pb) (hv : VI f n) (hk : r.kind = 1 ∨ r.kind = 2) (hno : r.no = (n : Int) + 1) : PR (folP f r tr) (fun o => if o = tr then .pointer (some ⟨p, 0, none⟩) else Q o) (fun i => if i = n then p else pb i) := fun th ht h0 => by
  have hk0 : r.kind ≠ 0 := by omega
  by_cases e : th = tr
  · subst e
    dsimp only
    rw [if_pos rfl, folP_no hk0, hno, if_pos (by omega)]
  · have e0 := folP_other (f := f) (r := r) (o := 0) hk0 ht e (by omega)
    rw [Nat.add_zero] at e0
    rw [e0] at h0
    have hb := hv.t th ht h0
    dsimp only
    rw [if_neg e, folP_other hk0 ht e (by omega), if_neg (by omega)]
    exact h th ht h0
theorem PR.go {f : Nat → Int} {Q : Nat → Value} {pb : Nat → Nat} {tr : Nat} {r : Rw} (h : PR f Q pb) (hf : fitP f r tr = true) (h1 : r.kind ≠ 1) (h2 : r.kind ≠ 2) : PR (folP f r tr) Q pb := fun th ht h0 => by
  by_cases hk0 : r.kind = 0
  · have e1 : folP f r tr = f := by unfold folP; rw [if_pos hk0]
    rw [e1] at h0 ⊢
    exact h th ht h0
  by_cases e : th = tr
  · subst e
    obtain ⟨hno, hst⟩ := fit_no hf hk0 h1 h2
    rw [folP_no hk0, hno]
    exact h th ht hst
  · have e0 := folP_other (f := f) (r := r) (o := 0) hk0 ht e (by omega)
    rw [Nat.add_zero] at e0
    rw [e0] at h0
    rw [folP_other hk0 ht e (by omega)]
    exact h th ht h0
end Go.Proofs.Ytmnmphkkcabkiaa

namespace Go.Proofs.Ytmnmphkkcabkiaa
open Go.RowKit Go.WideShapes
attribute [local go_sem] Oper.semAt_some run_store_nf run_store_f
theorem VB.keep {w w' : World} {b n : Nat} {f : Nat → Value} (h : VB w b n f) (hn : 0 < n) {S : Nat → Prop} (k : Keeps S w w') (hS : ¬ S b) : VB w' b n f :=
  ⟨fun o ho => k.cell (h.c o ho) hS, fun o ho => (k.frozen (p := ⟨b, o, none⟩) (h.lt hn) hS).trans (h.z o ho)⟩
theorem VB.set {w : World} {b n : Nat} {f : Nat → Value} (h : VB w b n f) {o : Nat} (ho : o < n) (v : Value) : VB (w.setCell ⟨b, o, none⟩ v) b n (fun x => if x = o then v else f x) := by
  refine ⟨fun p hp => ?_, fun p hp => by simp only [World.frozen?_setCell]; exact h.z p hp⟩
  by_cases e : p = o
  · subst e
    rw [if_pos rfl]
    exact World.cell?_setCell_same _ _ _ (h.c p hp)
  · rw [if_neg e, World.cell?_setCell_other _ _ _ _ (by intro e2; injection e2 with _ e3; exact e e3.symm)]
    exact h.c p hp
structure SV (rb qb : Nat) (r : Rw) (Q : Nat → Value) (W : World) : Prop where
  r : CL W rb r.cells
  q : VB W qb 6 Q
end Go.Proofs.Ytmnmphkkcabkiaa

namespace Go.Proofs.Ytmnmphkkcabkiaa
open Go.RowKit
structure TvI (t : Tv) : Prop where
  s : ∀ s ∈ t.saws, s.rel = false ∧ I64 s.entry
  i : Inc t.wrs
  w : ∀ x ∈ t.wrs, I64 x.object
theorem TvI.add {t : Tv} (h : TvI t) {r : Rw} (h1 : I64 r.object) (h2 : I64 r.entry) : TvI (addD t r) := by
  have a1 : TvI (addF t r) := by
    unfold addF
    split
    · exact ⟨h.s, h.i, h.w⟩
    · exact h
  have a2 : TvI (addE (addF t r) r) := by
    unfold addE
    split
    · exact a1
    · exact ⟨a1.s, a1.i, a1.w⟩
  have a3 : TvI (addS (addE (addF t r) r) r) := by
    generalize addE (addF t r) r = u at a2 ⊢
    unfold addS
    split
    · refine ⟨fun s hs => ?_, a2.i, a2.w⟩
      rcases List.mem_append.1 hs with h | h
      · exact a2.s s h
      · rw [List.mem_singleton.1 h]
        exact ⟨rfl, h2⟩
    · exact a2
  unfold addD
  generalize addS (addE (addF t r) r) r = u at a3 ⊢
  unfold addW
  split
  · refine ⟨a3.s, ?_, fun x hx => ?_⟩
    · show Inc (putD u.wrs (wroD r))
      rw [putD_ins a3.i]
      exact a3.i.ins
    · have hx : x ∈ putD u.wrs (wroD r) := hx
      rw [putD_ins a3.i] at hx
      rcases mem_ins hx with h | h
      · rw [h]
        exact h1
      · exact a3.w x h
  · exact a3
theorem TvI.beg (r : Rw) (st : Int) : TvI (begD r st) := ⟨fun s hs => (by simp [begD] at hs), List.Pairwise.nil, fun s hs => (by simp [begD] at hs)⟩
def telT (t : Tv) (c : Int → Nat) : Tv := { t with saws := t.saws.map (telG c) }
def telL (T : Nat → Tv) (c : Nat → Int → Nat) (n : Nat) : List Tv := (List.range n).map (fun i => telT (T i) (c i))
theorem telL_len (T : Nat → Tv) (c : Nat → Int → Nat) (n : Nat) : (telL T c n).length = n := by unfold telL; simp
theorem telL_get {T : Nat → Tv} {c : Nat → Int → Nat} {n i : Nat} (hi : i < n) : (telL T c n).getD i tv0 = telT (T i) (c i) := by
  unfold telL
  rw [List.getD_eq_getElem?_getD, List.getElem?_map, List.getElem?_range hi]
  rfl
theorem rel_entry {l : List Rw} (h : fstP l 0 (f0 6) = none) (k : Nat) (hk : k < l.length) (h4 : (l.getD k rw0).kind = 4) : -1 ≤ (l.getD k rw0).entry := fit_rel (row_ok h hk).2 h4
end Go.Proofs.Ytmnmphkkcabkiaa

namespace Go.Proofs.Ytmnmphkkcabkiaa
open Go.RowKit
theorem addD_end {t : Tv} {r : Rw} : (addD t r).end_ = if r.fin = 0 then t.end_ else r.step := by
  have e1 : (addD t r).end_ = (addE (addF t r) r).end_ := by
    unfold addD addW addS
    repeat (first | rfl | split)
  rw [e1]
  unfold addE
  split
  · unfold addF
    split <;> rfl
  · rfl
theorem addD_wrs {t : Tv} {r : Rw} : (addD t r).wrs = if r.puts = true then putD t.wrs (wroD r) else t.wrs := by
  have e0 : (addS (addE (addF t r) r) r).wrs = t.wrs := by
    unfold addS addE addF
    repeat (first | rfl | split)
  unfold addD addW
  split
  · show putD (addS (addE (addF t r) r) r).wrs _ = _
    rw [e0]
  · exact e0
theorem fol_state {f : Nat → Int} {r : Rw} {th : Nat} (hk : r.kind ≠ 0) : folP f r th (th * 5) = if dec r.fin then 3 else if r.fin != 0 then 2 else if r.kind = 1 ∨ r.kind = 2 then 1 else if r.kind = 17 then 0 else f (th * 5) := by
  have g : fol3 f r th (th * 5) = if r.kind = 1 ∨ r.kind = 2 then 1 else if r.kind = 17 then 0 else f (th * 5) := by
    rw [fol3_at (by omega)]
    unfold fol2
    by_cases h1 : r.kind = 1
    · rw [if_pos h1, if_pos (.inl h1), up_ne (by omega), up_at]
    · rw [if_neg h1]
      by_cases h2 : r.kind = 2
      · rw [if_pos h2, if_pos (.inr h2), up_ne (by omega), up_at]
      · rw [if_neg h2, if_neg (show ¬ (r.kind = 1 ∨ r.kind = 2) by omega)]
        by_cases h3 : r.kind = 17
        · rw [if_pos h3, if_pos h3, up_at]
        · rw [if_neg h3, if_neg h3]
          unfold fol1
          rw [up_ne (by omega), up_ne (by omega), up_ne (by omega)]
  unfold folP
  rw [if_neg hk]
  split
  · rw [up_at]
  · split
    · rw [up_at]
    · exact g
theorem fit_live {f : Nat → Int} {r : Rw} {th : Nat} (h : fitP f r th = true) (hof : ofD r.kind = true) : r.no = f (th * 5 + 3) ∧ f (th * 5) = 1 := by
  have hk0 : r.kind ≠ 0 := fun e => by rw [e] at hof; cases hof
  have hk1 : r.kind ≠ 1 := fun e => by rw [e] at hof; cases hof
  have hk2 : r.kind ≠ 2 := fun e => by rw [e] at hof; cases hof
  have hk3 : r.kind ≠ 17 := fun e => by rw [e] at hof; cases hof
  unfold fitP at h
  rw [if_neg hk0] at h
  by_cases hth : r.thread < 0 ∨ 6 ≤ r.thread
  · rw [if_pos hth] at h; cases h
  · rw [if_neg hth, if_neg hk1, if_neg hk2, if_neg hk3] at h
    simp only [Bool.and_eq_true, eq3_iff, beq_iff_eq] at h
    obtain ⟨⟨⟨⟨_, h1⟩, _, _, h2⟩, _⟩, _⟩ := h
    exact ⟨h2, h1⟩
theorem fit_quiet {f : Nat → Int} {r : Rw} {th : Nat} (h : fitP f r th = true) (hof : ofD r.kind = false) : r.fin = 0 ∧ r.puts = false := by
  by_cases h0 : r.kind = 0
  · unfold fitP at h
    rw [if_pos h0] at h
    simp only [Bool.and_eq_true, sil_iff] at h
    exact ⟨h.2.1, h.2.2.2⟩
  unfold fitP at h
  rw [if_neg h0] at h
  split at h
  · cases h
  · by_cases h1 : r.kind = 1
    · rw [if_pos h1] at h
      simp only [Bool.and_eq_true, sil_iff] at h
      exact ⟨h.2.1, h.2.2.2⟩
    · rw [if_neg h1] at h
      by_cases h2 : r.kind = 2
      · rw [if_pos h2] at h
        simp only [Bool.and_eq_true, sil_iff] at h
        exact ⟨h.2.1, h.2.2.2⟩
      · rw [if_neg h2] at h
        by_cases h3 : r.kind = 17
        · rw [if_pos h3] at h
          simp only [Bool.and_eq_true, sil_iff] at h
          exact ⟨h.2.1, h.2.2.2⟩
        · exact absurd (ofd_x h0 h1 h2 h3) (by rw [hof]; decide)
theorem fit_puts {f : Nat → Int} {r : Rw} {th : Nat} (h : fitP f r th = true) (hp : r.puts = true) : 0 ≤ r.object := by
  have hof : ofD r.kind = true := by
    cases e : ofD r.kind with
    | true => rfl
    | false => have := (fit_quiet h e).2; rw [hp] at this; cases this
  have hk0 : r.kind ≠ 0 := fun e => by rw [e] at hof; cases hof
  have hk1 : r.kind ≠ 1 := fun e => by rw [e] at hof; cases hof
  have hk2 : r.kind ≠ 2 := fun e => by rw [e] at hof; cases hof
  have hk3 : r.kind ≠ 17 := fun e => by rw [e] at hof; cases hof
  unfold fitP at h
  rw [if_neg hk0] at h
  by_cases hth : r.thread < 0 ∨ 6 ≤ r.thread
  · rw [if_pos hth] at h; cases h
  · rw [if_neg hth, if_neg hk1, if_neg hk2, if_neg hk3] at h
    simp only [Bool.and_eq_true] at h
    have h1 := h.2
    unfold readP at h1
    split at h1
    · cases h1
    · rename_i hn
      simp [hp] at hn
      omega
structure LV (f : Nat → Int) (ts : List Tv) : Prop where
  d : ∀ th th', th < 6 → th' < 6 → f (th * 5) = 1 → f (th' * 5) = 1 → f (th * 5 + 3) = f (th' * 5 + 3) → th = th'
  e : ∀ th, th < 6 → f (th * 5) = 1 → (ts.getD (f (th * 5 + 3) - 1).toNat tv0).end_ = -1
theorem LV.start : LV (f0 6) [] := by
  have h0 : ∀ th, th < 6 → f0 6 (th * 5) = 0 := fun th ht => by unfold f0; rw [if_neg (by omega)]
  exact ⟨fun th th' h1 _ h => (by rw [h0 th h1] at h; cases h), fun th h1 h => (by rw [h0 th h1] at h; cases h)⟩
theorem LV.next {f : Nat → Int} {ts : List Tv} {g : Nat → Int} (h : LV f ts) (hv : VI f ts.length) {r : Rw} (hf : fitP f r r.thread.toNat = true) : LV (folP f r r.thread.toNat) (stT (ts, g) r).1 := by
  have hro := hv.row hf
  by_cases hk : r.kind = 0
  · have e1 : folP f r r.thread.toNat = f := by unfold folP; rw [if_pos hk]
    have e2 : (stT (ts, g) r).1 = ts := by
      unfold stT
      rw [if_neg (by omega), if_neg (by omega), if_neg (by rw [hk]; decide)]
    rw [e1, e2]
    exact h
  have ht := hro.th hk
  obtain ⟨th, hth⟩ : ∃ th, r.thread.toNat = th := ⟨_, rfl⟩
  have htl : th < 6 := by omega
  rw [hth] at hf ⊢
  have hst := fol_state (f := f) (r := r) (th := th) hk
  have hno : folP f r th (th * 5 + 3) = r.no := folP_no hk
  have hot : ∀ q o, q < 6 → q ≠ th → o < 5 → folP f r th (q * 5 + o) = f (q * 5 + o) := fun q o hq e ho => folP_other hk hq e ho
  have ho0 : ∀ q, q < 6 → q ≠ th → folP f r th (q * 5) = f (q * 5) := fun q hq e => by have := hot q 0 hq e (by omega); rwa [Nat.add_zero] at this
  have hnb : ∀ q, q < 6 → f (q * 5) = 1 → 1 ≤ f (q * 5 + 3) ∧ f (q * 5 + 3) ≤ (ts.length : Int) := fun q hq e => hv.t q hq (by rw [e]; decide)
  by_cases hb : r.kind = 1 ∨ r.kind = 2
  · have hrb := hro.b hb
    have hst1 : folP f r th (th * 5) = 1 := by
      rw [hst, hrb.2.2.2]
      rw [if_neg (by decide), if_neg (by decide), if_pos hb]
    have hts : ∃ st, (stT (ts, g) r).1 = ts ++ [begD r st] := by
      unfold stT
      rcases hb with e | e
      · rw [if_pos e]; exact ⟨_, rfl⟩
      · rw [if_neg (by omega), if_pos e]; exact ⟨_, rfl⟩
    obtain ⟨st, hts⟩ := hts
    rw [hts]
    refine ⟨fun a b ha hb' ea eb e => ?_, fun q hq eq => ?_⟩
    · by_cases h1 : a = th
      · by_cases h2 : b = th
        · omega
        · subst h1
          rw [hno, hot b 3 hb' h2 (by omega)] at e
          rw [ho0 b hb' h2] at eb
          have := hnb b hb' eb
          omega
      · by_cases h2 : b = th
        · subst h2
          rw [hno, hot a 3 ha h1 (by omega)] at e
          rw [ho0 a ha h1] at ea
          have := hnb a ha ea
          omega
        · rw [hot a 3 ha h1 (by omega), hot b 3 hb' h2 (by omega)] at e
          rw [ho0 a ha h1] at ea
          rw [ho0 b hb' h2] at eb
          exact h.d a b ha hb' ea eb e
    · by_cases h1 : q = th
      · subst h1
        rw [hno, hrb.1, show ((ts.length : Int) + 1 - 1).toNat = ts.length by omega, getD_app_right]
        rfl
      · rw [ho0 q hq h1] at eq
        rw [hot q 3 hq h1 (by omega)]
        have := hnb q hq eq
        rw [getD_app_left (by omega)]
        exact h.e q hq eq
  · by_cases hof : ofD r.kind = true
    · obtain ⟨l1, l2⟩ := fit_live hf hof
      have hb3 := hnb th htl l2
      have hk17 : r.kind ≠ 17 := fun e => by rw [e] at hof; cases hof
      have hts : (stT (ts, g) r).1 = ts.set (r.no - 1).toNat (addD (ts.getD (r.no - 1).toNat tv0) r) := by
        unfold stT
        rw [if_neg (fun e => hb (.inl e)), if_neg (fun e => hb (.inr e)), if_pos hof]
      rw [hts]
      have hin : (r.no - 1).toNat < ts.length := by omega
      have live : folP f r th (th * 5) = 1 → r.fin = 0 := fun e => by
        rw [hst] at e
        split at e
        · cases e
        · split at e
          · cases e
          · rename_i h2
            simpa using h2
      refine ⟨fun a b ha hb' ea eb e => ?_, fun q hq eq => ?_⟩
      · by_cases h1 : a = th
        · by_cases h2 : b = th
          · omega
          · subst h1
            rw [hno, hot b 3 hb' h2 (by omega), l1] at e
            rw [ho0 b hb' h2] at eb
            exact absurd (h.d a b ha hb' l2 eb e).symm h2
        · by_cases h2 : b = th
          · subst h2
            rw [hno, hot a 3 ha h1 (by omega), l1] at e
            rw [ho0 a ha h1] at ea
            exact absurd (h.d a b ha hb' ea l2 e) h1
          · rw [hot a 3 ha h1 (by omega), hot b 3 hb' h2 (by omega)] at e
            rw [ho0 a ha h1] at ea
            rw [ho0 b hb' h2] at eb
            exact h.d a b ha hb' ea eb e
      · by_cases h1 : q = th
        · subst h1
          rw [hno, getD_set_eq hin, addD_end, if_pos (live eq), l1]
          exact h.e q hq l2
        · rw [ho0 q hq h1] at eq
          rw [hot q 3 hq h1 (by omega)]
          have hqb := hnb q hq eq
          have hne : (f (q * 5 + 3) - 1).toNat ≠ (r.no - 1).toNat := fun e => h1 (h.d q th hq htl eq l2 (by omega))
          rw [getD_set_ne hne]
          exact h.e q hq eq
    · have hof : ofD r.kind = false := by simpa using hof
      have hfin := (fit_quiet hf hof).1
      have hk17 : r.kind = 17 := by
        by_cases e : r.kind = 17
        · exact e
        · exact absurd (ofd_x hk (fun e => hb (.inl e)) (fun e => hb (.inr e)) e) (by rw [hof]; decide)
      have hst0 : folP f r th (th * 5) = 0 := by
        rw [hst, hfin, if_neg (by decide), if_neg (by decide), if_neg hb, if_pos hk17]
      have hts : (stT (ts, g) r).1 = ts := by
        unfold stT
        rw [if_neg (fun e => hb (.inl e)), if_neg (fun e => hb (.inr e)), if_neg (by rw [hof]; decide)]
      rw [hts]
      have nl : ∀ q, q < 6 → folP f r th (q * 5) = 1 → q ≠ th := fun q _ e h1 => by
        rw [h1, hst0] at e
        cases e
      refine ⟨fun a b ha hb' ea eb e => ?_, fun q hq eq => ?_⟩
      · have h1 := nl a ha ea
        have h2 := nl b hb' eb
        rw [hot a 3 ha h1 (by omega), hot b 3 hb' h2 (by omega)] at e
        rw [ho0 a ha h1] at ea
        rw [ho0 b hb' h2] at eb
        exact h.d a b ha hb' ea eb e
      · have h1 := nl q hq eq
        rw [ho0 q hq h1] at eq
        rw [hot q 3 hq h1 (by omega)]
        exact h.e q hq eq
theorem lv_inv {l : List Rw} (h : fstP l 0 (f0 6) = none) : ∀ k, k ≤ l.length → LV (fAt l k) (txK l k).1
  | 0, _ => LV.start
  | k + 1, hk => (lv_inv h k (by omega)).next (g := (txK l k).2) (txK_vi h k (by omega)) (row_ok h (by omega)).2
end Go.Proofs.Ytmnmphkkcabkiaa

