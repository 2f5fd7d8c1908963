import Derived.Test.YtmnmphkkcabkiaaG13
import Derived.Test.YtmnmphkkcabkiaaG08
namespace Go.Proofs.Ytmnmphkkcabkiaa
open Go.RowKit
structure V3 where
  num : Int
  next : Int
  dead : Bool
def v30 : V3 := ⟨0, 0, false⟩
def V3.cells (v : V3) : List Value := [.int .i64 v.num, .int .i64 v.next, .bool v.dead]
def Wo.v3 (x : Wo) : V3 := ⟨x.vN, x.vX, x.vD⟩
def gvl (F : Nat → V3) (n : Nat) : List Value := (List.range n).flatMap (fun i => (F i).cells)
theorem gvl_succ (F : Nat → V3) (n : Nat) : gvl F (n + 1) = gvl F n ++ (F n).cells := by
  unfold gvl
  rw [List.range_succ, List.flatMap_append]
  simp
theorem gvl_len (F : Nat → V3) : ∀ n, (gvl F n).length = n * 3
  | 0 => rfl
  | n + 1 => by
    rw [gvl_succ, List.length_append, gvl_len F n]
    show n * 3 + 3 = (n + 1) * 3
    omega
theorem gvl_get {F : Nat → V3} {i : Nat} : ∀ {n : Nat}, i < n → ∀ j u, (F i).cells[j]? = some u → (gvl F n)[i * 3 + j]? = some u
  | 0, h, _, _, _ => by omega
  | n + 1, h, j, u, e => by
    have hj : j < 3 := (List.getElem?_eq_some_iff.1 e).1
    have hl := gvl_len F n
    rw [gvl_succ]
    by_cases hk : i = n
    · subst hk
      rw [List.getElem?_append_right (by omega), hl, show i * 3 + j - i * 3 = j by omega]
      exact e
    · rw [List.getElem?_append_left (by omega)]
      exact gvl_get (by omega) j u e
theorem gvl_congr {F G : Nat → V3} : ∀ {n : Nat}, (∀ i, i < n → F i = G i) → gvl F n = gvl G n
  | 0, _ => rfl
  | n + 1, h => by rw [gvl_succ, gvl_succ, gvl_congr (fun i hi => h i (by omega)), h n (by omega)]
theorem gvl_sets {F : Nat → V3} {i : Nat} {v : V3} : ∀ {n : Nat}, i < n → sets (gvl F n) (i * 3) v.cells = gvl (fun j => if j = i then v else F j) n
  | 0, h => by omega
  | n + 1, h => by
    have hl := gvl_len F n
    have hv : v.cells.length = 3 := rfl
    have hn : (F n).cells.length = 3 := rfl
    rw [gvl_succ, gvl_succ]
    by_cases hk : i = n
    · subst hk
      rw [if_pos rfl, gvl_congr (F := fun j => if j = i then v else F j) (G := F) (fun j hj => if_neg (by omega))]
      unfold sets
      rw [List.take_append_of_le_length (by omega), List.take_of_length_le (by omega), List.drop_of_length_le (by rw [List.length_append]; omega), List.append_nil]
    · rw [if_neg (fun e => hk e.symm), ← gvl_sets (by omega)]
      unfold sets
      rw [List.take_append_of_le_length (by omega), List.drop_append_of_le_length (by omega), List.append_assoc, List.append_assoc, List.append_assoc]
def wov : List Wo → Int → Option V3
  | [], _ => none
  | x :: l, o => if x.object = o then some x.v3 else wov l o
theorem wov_some {o : Int} : ∀ {l : List Wo}, (wof l o).isSome = (wov l o).isSome
  | [] => rfl
  | x :: l => by
    unfold wof wov
    split
    · rfl
    · exact wov_some
theorem val_v3 {x y : Wo} (h : x.val = y.val) : x.v3 = y.v3 := by
  unfold Wo.val at h
  injection h with h
  injection h with h
  injection h with h1 h2
  injection h2 with h2 h3
  injection h3 with h3 _
  injection h1 with _ h1
  injection h2 with _ h2
  injection h3 with h3
  unfold Wo.v3
  rw [h1, h2, h3]
theorem wov_at {o : Int} {y : Wo} : ∀ {l : List Wo}, wof l o = some y.val → wov l o = some y.v3
  | [], h => by cases h
  | x :: l, h => by
    unfold wof at h
    unfold wov
    split
    · rename_i e
      rw [if_pos e] at h
      rw [val_v3 (Option.some.inj h)]
    · rename_i e
      rw [if_neg e] at h
      exact wov_at h
def layF (ws : List Wo) (F : Nat → V3) : Nat → V3 := fun i => (wov ws (i : Int)).getD (F i)
def fwK (l : List Rw) (F0 : Nat → V3) : Nat → (Nat → V3)
  | 0 => F0
  | k + 1 => if (l.getD k rw0).fin = 1 then layF ((txK l (k + 1)).1.getD ((l.getD k rw0).no - 1).toNat tv0).wrs (fwK l F0 k) else fwK l F0 k
theorem ended_step {l : List Rw} (h : fstP l 0 (f0 6) = none) {k i : Nat} (hk : k < l.length) (hi : i < (txK l k).1.length) (he : ((txK l k).1.getD i tv0).end_ ≠ -1) : (txK l (k + 1)).1.getD i tv0 = (txK l k).1.getD i tv0 := by
  have hlv := lv_inv h k (by omega)
  have hfit := (row_ok h hk).2
  have hro := txK_ro h hk
  show (stT (txK l k) (l.getD k rw0)).1.getD i tv0 = _
  generalize l.getD k rw0 = r at *
  generalize txK l k = s at *
  unfold stT
  by_cases h1 : r.kind = 1
  · rw [if_pos h1]
    exact getD_app_left hi
  rw [if_neg h1]
  by_cases h2 : r.kind = 2
  · rw [if_pos h2]
    exact getD_app_left hi
  rw [if_neg h2]
  by_cases hof : ofD r.kind = true
  · rw [if_pos hof]
    dsimp only
    obtain ⟨l1, l2⟩ := fit_live hfit hof
    have hk0 : r.kind ≠ 0 := fun e => by rw [e] at hof; cases hof
    have ht := hro.th hk0
    have hno := hro.o hof
    refine getD_set_ne (fun e => he ?_)
    have := hlv.e r.thread.toNat (by omega) l2
    rw [← l1] at this
    rw [e]
    exact this
  · rw [if_neg hof]
theorem ended_stays {l : List Rw} (h : fstP l 0 (f0 6) = none) {k i : Nat} (hi : i < (txK l k).1.length) (he : ((txK l k).1.getD i tv0).end_ ≠ -1) : ∀ d, k + d ≤ l.length → (txK l (k + d)).1.getD i tv0 = (txK l k).1.getD i tv0
  | 0, _ => rfl
  | d + 1, hd => by
    have ih := ended_stays h hi he d (by omega)
    have hm := txK_mono l k d
    have := ended_step h (k := k + d) (i := i) (by omega) (by omega) (by rw [ih]; exact he)
    rw [← ih, ← this]
    rfl
theorem fin_of {f : Nat → Int} {r : Rw} {th : Nat} (h : fitP f r th = true) (hn : r.fin ≠ 0) : ofD r.kind = true := by
  cases e : ofD r.kind with
  | true => rfl
  | false => exact absurd (fit_quiet h e).1 hn
theorem txK_of {l : List Rw} (h : fstP l 0 (f0 6) = none) {k : Nat} (hk : k < l.length) (hof : ofD (l.getD k rw0).kind = true) : (txK l (k + 1)).1.getD ((l.getD k rw0).no - 1).toNat tv0 = addD ((txK l k).1.getD ((l.getD k rw0).no - 1).toNat tv0) (l.getD k rw0) ∧ ((l.getD k rw0).no - 1).toNat < (txK l k).1.length := by
  have hno := (txK_ro h hk).o hof
  show (stT (txK l k) (l.getD k rw0)).1.getD _ tv0 = _ ∧ _
  generalize l.getD k rw0 = r at *
  have hk1 : r.kind ≠ 1 := fun e => by rw [e] at hof; cases hof
  have hk2 : r.kind ≠ 2 := fun e => by rw [e] at hof; cases hof
  unfold stT
  rw [if_neg hk1, if_neg hk2, if_pos hof]
  exact ⟨getD_set_eq (by omega), by omega⟩
theorem txD_wrs {l : List Rw} (h : fstP l 0 (f0 6) = none) {k : Nat} (hk : k < l.length) (hf : (l.getD k rw0).fin = 1) : ((txD l).getD ((l.getD k rw0).no - 1).toNat tv0).wrs = ((txK l (k + 1)).1.getD ((l.getD k rw0).no - 1).toNat tv0).wrs ∧ ((l.getD k rw0).no - 1).toNat < (txD l).length := by
  obtain ⟨hst, hfit⟩ := row_ok h hk
  have hof := fin_of hfit (by omega)
  obtain ⟨e1, hin⟩ := txK_of h hk hof
  have hlen : (txD l).length = (txK l l.length).1.length := rlK_len _ _ _
  have hm1 := txK_mono l k 1
  have hm2 := txK_mono l (k + 1) (l.length - (k + 1))
  rw [show k + 1 + (l.length - (k + 1)) = l.length by omega] at hm2
  have hend : ((txK l (k + 1)).1.getD ((l.getD k rw0).no - 1).toNat tv0).end_ ≠ -1 := by
    rw [e1, addD_end, if_neg (by omega), hst]
    omega
  have e2 := ended_stays h (k := k + 1) (by omega) hend (l.length - (k + 1)) (by omega)
  rw [show k + 1 + (l.length - (k + 1)) = l.length by omega] at e2
  have e3 : (txD l).getD ((l.getD k rw0).no - 1).toNat tv0 = _ := rlK_saws (ts := (txK l l.length).1) (n := l.length) (fun k hk h4 => rel_entry h k hk h4) l.length (Nat.le_refl _) ((l.getD k rw0).no - 1).toNat (by omega)
  refine ⟨?_, by omega⟩
  rw [e3]
  dsimp only
  rw [e2]
theorem inc_inv {l : List Rw} (h : fstP l 0 (f0 6) = none) : ∀ k, k ≤ l.length → ∀ i, i < (txK l k).1.length → Inc ((txK l k).1.getD i tv0).wrs
  | 0, _, i, hi => absurd hi (Nat.not_lt_zero _)
  | k + 1, hk, i, hi => by
    have ih := inc_inv h k (by omega)
    have hi' : i < (stT (txK l k) (l.getD k rw0)).1.length := hi
    show Inc ((stT (txK l k) (l.getD k rw0)).1.getD i tv0).wrs
    generalize l.getD k rw0 = r at *
    generalize txK l k = s at *
    rw [stT_len] at hi'
    unfold beg1 at hi'
    unfold stT
    have app : ∀ st, i < s.1.length + 1 → Inc ((s.1 ++ [begD r st]).getD i tv0).wrs := fun st hi => by
      by_cases e : i = s.1.length
      · subst e
        rw [getD_app_right]
        exact List.Pairwise.nil
      · rw [getD_app_left (by omega)]
        exact ih i (by omega)
    by_cases h1 : r.kind = 1
    · rw [if_pos (.inl h1)] at hi'
      rw [if_pos h1]
      exact app _ hi'
    rw [if_neg h1]
    by_cases h2 : r.kind = 2
    · rw [if_pos (.inr h2)] at hi'
      rw [if_pos h2]
      exact app _ hi'
    rw [if_neg (show ¬ (r.kind = 1 ∨ r.kind = 2) by omega)] at hi'
    rw [if_neg h2]
    by_cases hof : ofD r.kind = true
    · rw [if_pos hof]
      dsimp only
      by_cases e : i = (r.no - 1).toNat
      · subst e
        rw [getD_set_eq (by omega), addD_wrs]
        split
        · rw [putD_ins (ih _ (by omega))]
          exact (ih _ (by omega)).ins
        · exact ih _ (by omega)
      · rw [getD_set_ne e]
        exact ih i (by omega)
    · rw [if_neg hof]
      exact ih i (by omega)
theorem wrs_pos {l : List Rw} (h : fstP l 0 (f0 6) = none) : ∀ k, k ≤ l.length → ∀ i, i < (txK l k).1.length → ∀ x ∈ ((txK l k).1.getD i tv0).wrs, 0 ≤ x.object
  | 0, _, i, hi => absurd hi (Nat.not_lt_zero _)
  | k + 1, hk, i, hi => by
    have ih := wrs_pos h k (by omega)
    have hfit := (row_ok h (show k < l.length by omega)).2
    have hi' : i < (stT (txK l k) (l.getD k rw0)).1.length := hi
    have htv : ∀ i, i < (txK l k).1.length → Inc ((txK l k).1.getD i tv0).wrs := fun i hi => inc_inv h k (by omega) i hi
    show ∀ x ∈ ((stT (txK l k) (l.getD k rw0)).1.getD i tv0).wrs, 0 ≤ x.object
    generalize l.getD k rw0 = r at *
    generalize txK l k = s at *
    rw [stT_len] at hi'
    unfold beg1 at hi'
    unfold stT
    have app : ∀ st, i < s.1.length + 1 → ∀ x ∈ ((s.1 ++ [begD r st]).getD i tv0).wrs, 0 ≤ x.object := fun st hi => by
      by_cases e : i = s.1.length
      · subst e
        rw [getD_app_right]
        intro x hx
        simp [begD] at hx
      · rw [getD_app_left (by omega)]
        exact ih i (by omega)
    by_cases h1 : r.kind = 1
    · rw [if_pos (.inl h1)] at hi'
      rw [if_pos h1]
      exact app _ hi'
    rw [if_neg h1]
    by_cases h2 : r.kind = 2
    · rw [if_pos (.inr h2)] at hi'
      rw [if_pos h2]
      exact app _ hi'
    rw [if_neg (show ¬ (r.kind = 1 ∨ r.kind = 2) by omega)] at hi'
    rw [if_neg h2]
    by_cases hof : ofD r.kind = true
    · rw [if_pos hof]
      dsimp only
      by_cases e : i = (r.no - 1).toNat
      · subst e
        rw [getD_set_eq (by omega), addD_wrs]
        split
        · rename_i hp
          rw [putD_ins (htv _ (by omega))]
          intro x hx
          rcases mem_ins hx with e | e
          · rw [e]
            exact fit_puts hfit hp
          · exact ih _ (by omega) x e
        · exact ih _ (by omega)
      · rw [getD_set_ne e]
        exact ih i (by omega)
    · rw [if_neg hof]
      exact ih i (by omega)
end Go.Proofs.Ytmnmphkkcabkiaa

namespace Go.Proofs.Ytmnmphkkcabkiaa
open Go.RowKit
def VS (w : World) (a : Option Addr) (n : Nat) (F : Nat → V3) : Prop := ∀ i, i < n → ∃ b off, a = some ⟨b, off, none⟩ ∧ ∀ j v, (F i).cells[j]? = some v → w.cell? ⟨b, off + i * 3 + j, none⟩ = some v
theorem VS.keep {w w' : World} {a : Option Addr} {n : Nat} {F : Nat → V3} (h : VS w a n F) (k : Keeps (fun _ => False) w w') : VS w' a n F := fun i hi => by
  obtain ⟨b, off, e, hc⟩ := h i hi
  exact ⟨b, off, e, fun j v hv => k.cell (hc j v hv) (fun e => e)⟩
theorem gvl_back {F : Nat → V3} {n j : Nat} {u : Value} (h : (gvl F n)[j]? = some u) : j / 3 < n ∧ (F (j / 3)).cells[j % 3]? = some u := by
  have hj : j < n * 3 := by rw [← gvl_len F n]; exact (List.getElem?_eq_some_iff.1 h).1
  have h1 : j / 3 < n := by omega
  have hm : j % 3 < (F (j / 3)).cells.length := by show j % 3 < 3; omega
  have h2 := gvl_get (F := F) h1 (j % 3) _ (List.getElem?_eq_getElem hm)
  rw [show j / 3 * 3 + j % 3 = j by omega, h] at h2
  exact ⟨h1, by rw [List.getElem?_eq_getElem hm, ← h2]⟩
theorem one_v3 (v : V3) : ∀ u ∈ v.cells, u.oneCell' = true := fun u hu => by
  unfold V3.cells at hu
  simp at hu
  rcases hu with rfl | rfl | rfl <;> rfl
theorem one_gvl (F : Nat → V3) (n : Nat) : ∀ u ∈ gvl F n, u.oneCell' = true := fun u hu => by
  unfold gvl at hu
  rw [List.mem_flatMap] at hu
  obtain ⟨i, _, h⟩ := hu
  exact one_v3 _ u h
theorem iVals : ∃ i, Try.prog.info? 27 = some i ∧ i.zero = some (.agg #[.int .i64 0, .int .i64 0, .bool false]) ∧ i.size = 3 ∧ i.bytes = 24 := by
  have h : (Try.prog.info? 27).map (fun i => (i.zero, i.size, i.bytes)) = some (some (.agg #[.int .i64 0, .int .i64 0, .bool false]), 3, 24) := by kernel_rfl
  obtain ⟨i0, hi0, hzz⟩ := Option.map_eq_some_iff.1 h
  simp only [Prod.mk.injEq] at hzz
  exact ⟨i0, hi0, hzz⟩
theorem uVals : Try.prog.underlying 22 = some (.slice 27) := by kernel_rfl
set_option maxRecDepth 100000 in
theorem copy_v {W0 : World} {ao : Option Addr} {n : Nat} {F : Nat → V3} (co : Nat) (hO : VS W0 ao n F) (hz : ao = none → co = 0) (hn : n * 24 ≤ 140737488355328) :
    ∃ v' W', (Builtin.append_ #[22, 22] 22 #[.slice (some ⟨W0.heap.size, 0, none⟩) 0 0, .slice ao n co]).run Try.prog (W0.alloc (.cells #[] 27)) = .ok v' W' ∧ W'.ownsRow W0.heap.size 27 3 v' n (gvl F n) ∧ Keeps (fun _ => False) W0 W' := by
  obtain ⟨i0, hi0, hz0, hz1, hz2⟩ := iVals
  have k0 : Keeps (fun _ => False) W0 (W0.alloc (.cells #[] 27)) := (Keeps.refl _ W0).alloc _
  have o0 : (W0.alloc (.cells #[] 27)).ownsRow W0.heap.size 27 3 (.slice (some ⟨W0.heap.size, 0, none⟩) 0 0) 0 [] := ⟨rfl, .inr ⟨W0.heap.size, 0, #[], rfl, Nat.le_refl _, heap_new W0 _, Nat.le_refl _, by unfold maxLen; omega, rfl, rfl⟩⟩
  cases ao with
  | none =>
    have hl : n = 0 := by
      cases n with
      | zero => rfl
      | succ m => obtain ⟨b, off, e, _⟩ := hO 0 (by omega); cases e
    subst hl
    rw [hz rfl]
    exact ⟨_, _, run_append_owned_none (P := Try.prog) (w := W0.alloc (.cells #[] 27)) W0.heap.size 22 22 27 i0 3 uVals hi0 _ 0 [] o0, o0, k0⟩
  | some a =>
    have hsrc : ∀ j u, (gvl F n)[j]? = some u → (W0.alloc (.cells #[] 27)).cell? (a.add j) = some u := fun j u e => by
      obtain ⟨h1, h2⟩ := gvl_back e
      obtain ⟨b, off, ea, hc⟩ := hO _ h1
      injection ea with ea
      subst ea
      rw [add_at]
      have := hc _ _ h2
      rw [show off + j / 3 * 3 + j % 3 = off + j by omega] at this
      exact k0.cell this (fun e => e)
    obtain ⟨v', w', hr, ho, hgr, _, _⟩ := run_append_own_at (P := Try.prog) (w := W0.alloc (.cells #[] 27)) W0.heap.size 22 22 27 i0 _ 3 24 uVals hi0 hz0 hz1 hz2 rfl (by decide) _ 0 [] o0 a n co (gvl F n) (gvl_len F n) hsrc (one_gvl F n) (by unfold maxLen; omega) (by omega) k0.size
    rw [Nat.zero_add, List.nil_append] at ho
    exact ⟨v', w', hr, ho, k0.trans' ((Keeps.refl _ _).grown hgr (S := fun i => i = W0.heap.size) (fun i _ e => by simp [Value.ownBlock] at e; exact e.symm)) (fun _ _ e => e) (fun i hi e => by omega)⟩
def bls (st : Nat → Bool) (n : Nat) : List Value := (List.range n).map (fun i => .bool (st i))
theorem bls_len (st : Nat → Bool) (n : Nat) : (bls st n).length = n := by unfold bls; simp
theorem bls_get {st : Nat → Bool} {n i : Nat} (h : i < n) : (bls st n)[i]? = some (.bool (st i)) := by
  unfold bls
  rw [List.getElem?_map, List.getElem?_range h]
  rfl
theorem bls_set {st : Nat → Bool} {n i : Nat} {v : Bool} : (bls st n).set i (.bool v) = bls (fun j => if j = i then v else st j) n := by
  refine List.ext_getElem? (fun j => ?_)
  by_cases hj : j < n
  · rw [bls_get hj, List.getElem?_set]
    by_cases e : i = j
    · subst e
      rw [if_pos rfl, if_pos rfl, if_pos (by rw [bls_len]; exact hj)]
    · rw [if_neg e, if_neg (fun h => e h.symm), bls_get hj]
  · rw [List.getElem?_eq_none (by rw [List.length_set, bls_len]; omega), List.getElem?_eq_none (by rw [bls_len]; omega)]
def BJ (n : Nat) (st : Nat → Bool) (out F0 Fj F : Nat → V3) : Prop := ∀ o, o < n → (st o = true → out o = F o) ∧ (st o = false → out o = F0 o ∧ Fj o = F o)
def BK (ws : List Wo) (m n : Nat) (st : Nat → Bool) (out F0 Fj F : Nat → V3) : Prop := ∀ o, o < n → (st o = true → out o = F o) ∧ (st o = false → out o = F0 o ∧ (wov (ws.drop m) (o : Int)).getD (Fj o) = F o)
theorem BJ.first (n : Nat) (F0 F : Nat → V3) : BJ n (fun _ => false) F0 F0 F F := fun _ _ => ⟨fun e => (by cases e), fun _ => ⟨rfl, rfl⟩⟩
theorem BJ.enter {n : Nat} {st : Nat → Bool} {out F0 Fj F : Nat → V3} {ws : List Wo} (h : BJ n st out F0 (layF ws Fj) F) : BK ws 0 n st out F0 Fj F := fun o ho => ⟨(h o ho).1, fun e => ⟨((h o ho).2 e).1, ((h o ho).2 e).2⟩⟩
theorem BK.leave {n m : Nat} {st : Nat → Bool} {out F0 Fj F : Nat → V3} {ws : List Wo} (h : BK ws m n st out F0 Fj F) (hm : ws.length ≤ m) : BJ n st out F0 Fj F := fun o ho => ⟨(h o ho).1, fun e => ⟨((h o ho).2 e).1, by
  have := ((h o ho).2 e).2
  rw [List.drop_of_length_le hm] at this
  exact this⟩⟩
theorem drop_cons {ws : List Wo} {m : Nat} {x : Wo} (hx : ws[m]? = some x) : ws.drop m = x :: ws.drop (m + 1) := by
  obtain ⟨h1, h2⟩ := List.getElem?_eq_some_iff.1 hx
  rw [List.drop_eq_getElem_cons h1, h2]
theorem BK.skip {n m : Nat} {st : Nat → Bool} {out F0 Fj F : Nat → V3} {ws : List Wo} {x : Wo} (h : BK ws m n st out F0 Fj F) (hx : ws[m]? = some x) (hs : ∀ o : Nat, o < n → x.object = (o : Int) → st o = true) : BK ws (m + 1) n st out F0 Fj F := fun o ho => ⟨(h o ho).1, fun e => ⟨((h o ho).2 e).1, by
  have := ((h o ho).2 e).2
  rw [drop_cons hx] at this
  unfold wov at this
  rw [if_neg (fun e' => by rw [hs o ho e'] at e; cases e)] at this
  exact this⟩⟩
theorem BK.put {n m i : Nat} {st : Nat → Bool} {out F0 Fj F : Nat → V3} {ws : List Wo} {x : Wo} (h : BK ws m n st out F0 Fj F) (hx : ws[m]? = some x) (hi : i < n) (ho : x.object = (i : Int)) (hs : st i = false) : BK ws (m + 1) n (fun j => if j = i then true else st j) (fun j => if j = i then x.v3 else out j) F0 Fj F := fun o hon => by
  have hw : ∀ o, (wov (ws.drop m) o).getD (Fj o.toNat) = if x.object = o then x.v3 else (wov (ws.drop (m + 1)) o).getD (Fj o.toNat) := fun o => by
    rw [drop_cons hx]
    show (if x.object = o then some x.v3 else wov (ws.drop (m + 1)) o).getD _ = _
    split <;> rfl
  by_cases e : o = i
  · subst e
    dsimp only
    refine ⟨fun _ => ?_, fun e => by rw [if_pos rfl] at e; cases e⟩
    rw [if_pos rfl]
    have h1 := ((h o hon).2 hs).2
    have h2 := hw (o : Int)
    rw [if_pos ho, show ((o : Int)).toNat = o by omega, h1] at h2
    exact h2.symm
  · dsimp only
    rw [if_neg e, if_neg e]
    refine ⟨(h o hon).1, fun e' => ⟨((h o hon).2 e').1, ?_⟩⟩
    have h1 := ((h o hon).2 e').2
    have h2 := hw (o : Int)
    rw [if_neg (by omega), show ((o : Int)).toNat = o by omega, h1] at h2
    exact h2.symm
end Go.Proofs.Ytmnmphkkcabkiaa

namespace Go.Proofs.Ytmnmphkkcabkiaa
open Go.RowKit
structure TT (base N0 : Nat) (W : World) (k n : Nat) (pv : Value) (pb : Nat → Nat) (T : Nat → Tv) (sv : Nat → Value) (wb rb : Nat → Nat) (c : Nat → Int → Nat) (m : Nat) (lv : Value) (wv : Nat → Value) (τ : Nat → Nat) : Prop where
  o : W.ownsRow N0 42 11 lv k (gcl (fun i => (T i).cells (sv i) (wv i)) k)
  s : ∀ i, i < k → W.ownsRow base 44 9 (sv i) (T i).saws.length (scl ((T i).saws.map (telG (c i))))
  w : ∀ i, i < k → W.ownsRow N0 46 4 (wv i) (T i).wrs.length (wcl (T i).wrs)
  a : ∀ i, k ≤ i → i < n → PA base W (pb i) (T i) (sv i) (wb i) (rb i) (c i) m
  p : W.ownsRow base 71 1 pv n (pcl pb n)
  t0 : ∀ b, lv.ownBlock = some b → τ b = 1
  tw : ∀ i, i < k → ∀ b, (wv i).ownBlock = some b → τ b = 3 + 2 * i
  n0 : N0 ≤ W.heap.size
theorem TT.start {base n m : Nat} {X : World} {pv : Value} {pb wb rb : Nat → Nat} {T : Nat → Tv} {sv : Nat → Value} {c : Nat → Int → Nat} {ρ : Nat → Nat} (h : AT base X pv n pb T sv wb rb c ρ m) : TT base X.heap.size X 0 n pv pb T sv wb rb c m (.slice none 0 0) (fun _ => nilv) (fun _ => 0) :=
  ⟨World.ownsRow_nil _ _ _ _, fun i hi => by omega, fun i hi => by omega, fun i _ hi => h.a i hi, h.o, (fun b e => by cases e), fun i hi => by omega, Nat.le_refl _⟩
theorem TT.next {base n m k : Nat} {X W W1 : World} {pv lv wk : Value} {pb wb rb : Nat → Nat} {T : Nat → Tv} {sv wv : Nat → Value} {c : Nat → Int → Nat} {ρ τ : Nat → Nat} (hX : AT base X pv n pb T sv wb rb c ρ m) (h : TT base X.heap.size W k n pv pb T sv wb rb c m lv wv τ) (hk : k < n)
    (hs1 : W1.ownsRow base 44 9 (sv k) (T k).saws.length (scl ((T k).saws.map (telG (c k))))) (hw1 : W1.ownsRow W.heap.size 46 4 wk (T k).wrs.length (wcl (T k).wrs)) (k1 : Keeps (fun b => (sv k).ownBlock = some b) W W1) (hB : (k + 1) * 120 ≤ 140737488355328) :
    ∃ lv' W2, (Builtin.append_ #[35, 35] 35 #[lv, .slice (some ⟨W1.heap.size, 0, none⟩) 1 1]).run Try.prog (W1.alloc (.cells ((T k).cells (sv k) wk).toArray 42)) = .ok lv' W2 ∧
      TT base X.heap.size W2 (k + 1) n pv pb T sv wb rb c m lv' (fun i => if i = k then wk else wv i) (fun b => if b < W.heap.size then τ b else if wk.ownBlock = some b then 3 + 2 * k else 1) ∧ Keeps (fun b => base ≤ b) W W2 := by
  have lsv : ∀ i, i < n → ∀ b, (sv i).ownBlock = some b → b < X.heap.size := fun i hi b e => owns_lt' (hX.a i hi).s b e
  have lpb : ∀ i, i < n → pb i < X.heap.size := fun i hi => (hX.a i hi).cl.lt (by show 0 < 13; decide)
  have lwb : ∀ i, i < n → wb i < X.heap.size := fun i hi => (hX.a i hi).w.lt
  have lrb : ∀ i, i < n → rb i < X.heap.size := fun i hi => by obtain ⟨_, _, h2⟩ := (hX.a i hi).r; exact h2.lt
  have lpv : ∀ b, pv.ownBlock = some b → b < X.heap.size := fun b e => owns_lt' hX.o b e
  have n0 := h.n0
  have z1 := k1.size
  have hS : ∀ b, (sv k).ownBlock = some b → ρ b = 5 + 4 * k := hX.rs k hk
  have o1 := k1.owns h.o (fun b e1 e2 => by have := owns_baseT h.o b e1; have := lsv k hk b e2; omega)
  have s1 : ∀ i, i < k → W1.ownsRow base 44 9 (sv i) (T i).saws.length (scl ((T i).saws.map (telG (c i)))) := fun i hi => k1.owns (h.s i hi) (fun b e1 e2 => by have := hX.rs i (by omega) b e1; have := hS b e2; omega)
  have w1 : ∀ i, i < k → W1.ownsRow X.heap.size 46 4 (wv i) (T i).wrs.length (wcl (T i).wrs) := fun i hi => k1.owns (h.w i hi) (fun b e1 e2 => by have := owns_baseT (h.w i hi) b e1; have := lsv k hk b e2; omega)
  have a1 : ∀ i, k + 1 ≤ i → i < n → PA base W1 (pb i) (T i) (sv i) (wb i) (rb i) (c i) m := fun i hi hn => (h.a i (by omega) hn).keep k1 (fun e => by have := hX.rp i hn; have := hS _ e; omega) (fun e => by have := hX.rw i hn; have := hS _ e; omega) (fun e => by have := hX.rr i hn; have := hS _ e; omega) (fun b e1 e2 => by have := hX.rs i hn b e1; have := hS b e2; omega)
  have p1 := k1.owns h.p (fun b e1 e2 => by have := hX.r0 b e1; have := hS b e2; omega)
  obtain ⟨asl, csl, es, -⟩ := own_slice hs1
  obtain ⟨awl, cwl, ew, -⟩ := own_slice hw1
  obtain ⟨lv', W2, hr, ho, kk, hbl⟩ := append_sz uTx iTxs rfl (by decide) o1 (Nat.le_trans n0 z1) (by decide) hB ((T k).cells (sv k) wk) rfl (fun u hu => by
    rw [es, ew] at hu
    unfold Tv.cells at hu
    simp at hu
    rcases hu with rfl | rfl | rfl | rfl | rfl | rfl | rfl | rfl | rfl | rfl | rfl <;> rfl)
  have lb : ∀ b, lv.ownBlock = some b → X.heap.size ≤ b ∧ b < W.heap.size := fun b e => ⟨owns_baseT h.o b e, owns_lt' h.o b e⟩
  have bX := hX.bb
  refine ⟨lv', W2, hr, ⟨?_, fun i hi => ?_, fun i hi => ?_, fun i hi hn => ?_, ?_, fun b e => ?_, fun i hi b e => ?_, Nat.le_trans (Nat.le_trans n0 z1) kk.size⟩, k1.trans' kk (fun b _ e => ?_) (fun b _ e => ?_)⟩
  · rw [gcl_succ, if_pos rfl, gcl_congr (d := fun i => (T i).cells (sv i) (wv i)) (fun i hi => by rw [if_neg (by omega)])]
    exact ho
  · by_cases e : i = k
    · subst e
      exact kk.owns hs1 (fun b e1 e2 => by have := lsv i hk b e1; have := lb b e2; omega)
    · exact kk.owns (s1 i (by omega)) (fun b e1 e2 => by have := lsv i (by omega) b e1; have := lb b e2; omega)
  · by_cases e : i = k
    · subst e
      rw [if_pos rfl]
      exact kk.owns (owns_low hw1 n0) (fun b e1 e2 => by have := owns_baseT hw1 b e1; have := lb b e2; omega)
    · rw [if_neg e]
      exact kk.owns (w1 i (by omega)) (fun b e1 e2 => by have := h.tw i (by omega) b e1; have := h.t0 b e2; omega)
  · exact (a1 i hi hn).keep kk (fun e => by have := lpb i hn; have := lb _ e; omega) (fun e => by have := lwb i hn; have := lb _ e; omega) (fun e => by have := lrb i hn; have := lb _ e; omega) (fun b e1 e2 => by have := lsv i hn b e1; have := lb b e2; omega)
  · exact kk.owns p1 (fun b e1 e2 => by have := lpv b e1; have := lb b e2; omega)
  · rcases hbl with hb | hb
    · rw [hb] at e
      rw [if_pos (lb b e).2]
      exact h.t0 b e
    · rw [hb] at e
      have e := Option.some.inj e
      rw [if_neg (by omega), if_neg (fun e' => by have := owns_lt' hw1 b e'; omega)]
  · by_cases e' : i = k
    · subst e'
      rw [if_pos rfl] at e
      have := owns_baseT hw1 b e
      rw [if_neg (by omega), if_pos e]
    · rw [if_neg e'] at e
      rw [if_pos (owns_lt' (h.w i (by omega)) b e)]
      exact h.tw i (by omega) b e
  · exact owns_baseT (hX.a k hk).s b e
  · have := lb b e
    show base ≤ b
    omega
theorem TT.done {base n m : Nat} {X W : World} {pv lv : Value} {pb wb rb : Nat → Nat} {T : Nat → Tv} {sv wv : Nat → Value} {c : Nat → Int → Nat} {ρ τ : Nat → Nat} (hX : AT base X pv n pb T sv wb rb c ρ m) (h : TT base X.heap.size W n n pv pb T sv wb rb c m lv wv τ) :
    TL base W lv (telL T c n) sv wv (fun b => if b < X.heap.size then (ρ b - 1) / 2 else τ b) m := by
  have hl := telL_len T c n
  have bX := hX.bb
  refine ⟨?_, fun i hi => ?_, fun i hi => ?_, fun b e => ?_, fun i hi b e => ?_, fun i hi b e => ?_, fun i hi => ?_, Nat.le_trans bX h.n0⟩
  · unfold tcl
    rw [hl, gcl_congr (d := fun i => (T i).cells (sv i) (wv i)) (fun i hi => by rw [telL_get hi]; rfl)]
    exact owns_low h.o bX
  · rw [hl] at hi
    rw [telL_get hi]
    unfold telT
    dsimp only
    rw [List.length_map]
    exact h.s i hi
  · rw [hl] at hi
    rw [telL_get hi]
    exact owns_low (h.w i hi) bX
  · rw [if_neg (by have := owns_baseT h.o b e; omega)]
    exact h.t0 b e
  · rw [hl] at hi
    rw [if_pos (owns_lt' (hX.a i hi).s b e), hX.rs i hi b e]
    omega
  · rw [hl] at hi
    rw [if_neg (by have := owns_baseT (h.w i hi) b e; omega)]
    exact h.tw i hi b e
  · rw [hl] at hi
    rw [telL_get hi]
    unfold telT
    dsimp only
    rw [List.length_map]
    exact (hX.a i hi).ls
end Go.Proofs.Ytmnmphkkcabkiaa

namespace Go.Proofs.Ytmnmphkkcabkiaa
open Go.RowKit
attribute [local go_sem] Oper.semAt_some run_store_nf run_store_f
end Go.Proofs.Ytmnmphkkcabkiaa

namespace Go.Proofs.Ytmnmphkkcabkiaa
open Go.RowKit
theorem wpQuiet_neq {P : Program} {ops : Array Oper} {C : World → Prop} {Q : Act → Prop} {rest : List Oper} {o : Oper} {a : Act} (hw : Region.wanted o (yielded ops a.tmps) = true) (ty t2 : TypeId) (x y : Operand) (ho : o.op = .binOp .neq ty x y t2) (xs ys : Array Value) (hx : a.eval x = .agg xs) (hy : a.eval y = .agg ys) (b : Bool)
    (hm : P.eqGuardType P.depth ty = false) (hr : ∀ w, (Op.equalIn 10000 ty (.agg xs) (.agg ys)).run P w = .ok b w) (h : wpQuiet P ops C Q rest (a.put o.dst (.bool (!b)))) : wpQuiet P ops C Q (o :: rest) a :=
  BigFrame.wpQuiet_want hw fun K hK => ⟨.bool (!b), fun w hC => by
    unfold Oper.quietAt execOp
    simp only [ho, hx, hy, Sem.run_bind, Sem.run_pure, Result.andThen_ok, run_eqGuard_agg _ _ _ _ _ _ _ hm, run_neq_struct, hr]
    exact ⟨rfl, rfl⟩, hK _ h⟩
theorem eql_sw (s : Sw) (w : World) : (Op.equalIn 10000 44 (.agg s.cells.toArray) (.agg s.cells.toArray)).run Try.prog w = .ok true w := by
  rw [run_equalIn_agg w 9999 _ _ _ (by kernel_rfl) (by kernel_rfl)]
  unfold Program.fieldsOf
  rw [Try.underlying44]
  unfold Sw.cells
  go_simp
theorem eql_wo (s : Wo) (w : World) : (Op.equalIn 10000 46 (.agg s.cells.toArray) (.agg s.cells.toArray)).run Try.prog w = .ok true w := by
  rw [run_equalIn_agg w 9999 _ _ _ (by kernel_rfl) (by kernel_rfl)]
  unfold Program.fieldsOf
  rw [Try.underlying46]
  unfold Wo.cells
  go_simp
def SWL (w : World) (a : Option Addr) (l : List Sw) : Prop := ∀ i x, l[i]? = some x → ∃ b, a = some ⟨b, 0, none⟩ ∧ ∀ j v, x.cells[j]? = some v → w.cell? ⟨b, i * 9 + j, none⟩ = some v
theorem SWL.keep {w w' : World} {a : Option Addr} {l : List Sw} (h : SWL w a l) (k : Keeps (fun _ => False) w w') : SWL w' a l := fun i x hx => by
  obtain ⟨b, e, hc⟩ := h i x hx
  exact ⟨b, e, fun j v hv => k.cell (hc j v hv) (fun e => e)⟩
theorem swl_of {W : World} {base n : Nat} {v : Value} {l : List Sw} (h : W.ownsRow base 44 9 v n (scl l)) : ∃ a cap, v = .slice a n cap ∧ SWL W a l ∧ n = l.length := by
  have hl := h.1
  rw [scl_len] at hl
  obtain ⟨a, cap, rfl, hc, _⟩ := own_slice h
  refine ⟨a, cap, rfl, fun i x hx => ?_, by omega⟩
  obtain ⟨g, rfl, _⟩ := hc (i * 9 + 0) _ (scl_get l i x hx 0 _ rfl)
  refine ⟨g, rfl, fun j v hv => ?_⟩
  obtain ⟨g', e', hc'⟩ := hc (i * 9 + j) _ (scl_get l i x hx j v hv)
  cases e'
  exact hc'
set_option maxHeartbeats 1000000 in
set_option maxRecDepth 100000 in
theorem sameSaws_ok {w : World} {a b : Option Addr} {xs : List Sw} (ca cb : Nat) (ha : SWL w a xs) (hb : SWL w b xs) (hn : xs.length ≤ 4611686018427387904) : Calls Try.prog 26 #[.slice a xs.length ca, .slice b xs.length cb] w fun e w' => e = .returned (.bool true) ∧ Keeps (fun _ => False) w w' := by
  have hnn : ((xs.length : Int) != (xs.length : Int)) = false := by simp
  generalize hN : xs.length = N at *
  go_enter Try.func26, Try.ntmps26
  go_wp2
  go_loopw [5] (fun iv Wr => ∃ k : Nat, iv = .int .i64 (k : Int) ∧ k ≤ N ∧ Keeps (fun _ => False) w Wr) (fun iv _ => N - (intOf iv).toNat)
  case atStart => exact ⟨0, rfl, Nat.zero_le _, Keeps.refl _ w⟩
  case round =>
    obtain ⟨k, rfl, hk, kr⟩ := hrel
    by_cases hlt : k < N
    · have hltI : decide ((k : Int) < (N : Int)) = true := by simp; omega
      have hltJ : (k : Int) < (N : Int) := by omega
      have hk0 : (0 : Int) ≤ (k : Int) := by omega
      have hw1 : IntKind.i64.wrap ((k : Int) + 1) = (k : Int) + 1 := by rw [IntKind.wrap_i64]; omega
      obtain ⟨ba, rfl, c1⟩ := ha k _ (List.getElem?_eq_getElem (by omega))
      obtain ⟨bb, rfl, c2⟩ := hb k _ (List.getElem?_eq_getElem (by omega))
      generalize xs[k]'(by omega) = x at *
      have HR1 : Hid (∀ w', (∃ u : KS wr, w' = u.1) → (loadVar 44 ⟨ba, k * 9, none⟩).run Try.prog w' = .ok (.agg x.cells.toArray) w') := by
        rintro _ ⟨u, rfl⟩
        exact run_swAt (fun j v e => u.property.cell (kr.cell (c1 j v e) (fun e => e)) (fun e => e))
      have HR2 : Hid (∀ w', (∃ u : KS wr, w' = u.1) → (loadVar 44 ⟨bb, k * 9, none⟩).run Try.prog w' = .ok (.agg x.cells.toArray) w') := by
        rintro _ ⟨u, rfl⟩
        exact run_swAt (fun j v e => u.property.cell (kr.cell (c2 j v e) (fun e => e)) (fun e => e))
      have HE : Hid (∀ w, (Op.equalIn 10000 44 (.agg x.cells.toArray) (.agg x.cells.toArray)).run Try.prog w = .ok true w) := fun w => eql_sw x w
      have hNE : Nonempty (KS wr) := ⟨⟨wr, Keeps.refl _ wr⟩⟩
      clear c1 c2 ha hb
      go_wp2_with fail
      refine wp_region_ks (by kernel_rfl) (by kernel_rfl) ?_
      (repeat (first | go_big_quiet_skip | (refine wpQuiet_load (by kernel_rfl) 44 _ rfl ⟨ba, k * 9, none⟩ rfl _ HR1.out ?_; clear HR1; (try simp only [Act.put, List.setIfInBounds_toArray, List.set_cons_zero, List.set_cons_succ])) | (refine wpQuiet_load (by kernel_rfl) 44 _ rfl ⟨bb, k * 9, none⟩ rfl _ HR2.out ?_; clear HR2; (try simp only [Act.put, List.setIfInBounds_toArray, List.set_cons_zero, List.set_cons_succ])) | (refine wpQuiet_neq (by kernel_rfl) 44 _ _ _ rfl _ _ rfl rfl true (by kernel_rfl) HE.out ?_; (try simp only [Act.put, List.setIfInBounds_toArray, List.set_cons_zero, List.set_cons_succ])) | (go_big_quiet_step (fail))))
      refine wpQuiet_nil ?_
      rintro _ ⟨u, rfl⟩
      have ku := kr.trans u.property
      generalize u.val = wu at *
      go_wp2
      go_roundw
      case rel => exact ⟨k + 1, by go_num, by omega, ku⟩
      case measure => simp [intOf]; omega
    · have hltI : decide ((k : Int) < (N : Int)) = false := by simp; omega
      clear ha hb
      go_wp2
      go_ret
      exact ⟨rfl, kr⟩
theorem iWoK : (Try.prog.info? 46).map (·.size) = some 4 := by kernel_rfl
theorem run_woAt {W : World} {b o : Nat} {s : Wo} (hc : ∀ j v, s.cells[j]? = some v → W.cell? ⟨b, o + j, none⟩ = some v) : (loadVar 46 ⟨b, o, none⟩).run Try.prog W = .ok (.agg s.cells.toArray) W :=
  run_loadVar_mid W b o 46 s.cells _ (fun j v e => hc j v e) Try.underlying46 rfl (by rw [iWoK]; rfl)
set_option maxHeartbeats 1000000 in
set_option maxRecDepth 100000 in
theorem sameWrites_ok {w : World} {a b : Option Addr} {xs : List Wo} (ca cb : Nat) (ha : WRL w a xs) (hb : WRL w b xs) (hn : xs.length ≤ 4611686018427387904) : Calls Try.prog 27 #[.slice a xs.length ca, .slice b xs.length cb] w fun e w' => e = .returned (.bool true) ∧ Keeps (fun _ => False) w w' := by
  have hnn : ((xs.length : Int) != (xs.length : Int)) = false := by simp
  generalize hN : xs.length = N at *
  go_enter Try.func27, Try.ntmps27
  go_wp2
  go_loopw [5] (fun iv Wr => ∃ k : Nat, iv = .int .i64 (k : Int) ∧ k ≤ N ∧ Keeps (fun _ => False) w Wr) (fun iv _ => N - (intOf iv).toNat)
  case atStart => exact ⟨0, rfl, Nat.zero_le _, Keeps.refl _ w⟩
  case round =>
    obtain ⟨k, rfl, hk, kr⟩ := hrel
    by_cases hlt : k < N
    · have hltI : decide ((k : Int) < (N : Int)) = true := by simp; omega
      have hltJ : (k : Int) < (N : Int) := by omega
      have hk0 : (0 : Int) ≤ (k : Int) := by omega
      have hw1 : IntKind.i64.wrap ((k : Int) + 1) = (k : Int) + 1 := by rw [IntKind.wrap_i64]; omega
      obtain ⟨ba, rfl, c1⟩ := ha k _ (List.getElem?_eq_getElem (by omega))
      obtain ⟨bb, rfl, c2⟩ := hb k _ (List.getElem?_eq_getElem (by omega))
      generalize xs[k]'(by omega) = x at *
      have HR1 : Hid (∀ w', (∃ u : KS wr, w' = u.1) → (loadVar 46 ⟨ba, k * 4, none⟩).run Try.prog w' = .ok (.agg x.cells.toArray) w') := by
        rintro _ ⟨u, rfl⟩
        exact run_woAt (fun j v e => u.property.cell (kr.cell (c1 j v e) (fun e => e)) (fun e => e))
      have HR2 : Hid (∀ w', (∃ u : KS wr, w' = u.1) → (loadVar 46 ⟨bb, k * 4, none⟩).run Try.prog w' = .ok (.agg x.cells.toArray) w') := by
        rintro _ ⟨u, rfl⟩
        exact run_woAt (fun j v e => u.property.cell (kr.cell (c2 j v e) (fun e => e)) (fun e => e))
      have HE : Hid (∀ w, (Op.equalIn 10000 46 (.agg x.cells.toArray) (.agg x.cells.toArray)).run Try.prog w = .ok true w) := fun w => eql_wo x w
      have hNE : Nonempty (KS wr) := ⟨⟨wr, Keeps.refl _ wr⟩⟩
      clear c1 c2 ha hb
      go_wp2_with fail
      refine wp_region_ks (by kernel_rfl) (by kernel_rfl) ?_
      (repeat (first | go_big_quiet_skip | (refine wpQuiet_load (by kernel_rfl) 46 _ rfl ⟨ba, k * 4, none⟩ rfl _ HR1.out ?_; clear HR1; (try simp only [Act.put, List.setIfInBounds_toArray, List.set_cons_zero, List.set_cons_succ])) | (refine wpQuiet_load (by kernel_rfl) 46 _ rfl ⟨bb, k * 4, none⟩ rfl _ HR2.out ?_; clear HR2; (try simp only [Act.put, List.setIfInBounds_toArray, List.set_cons_zero, List.set_cons_succ])) | (refine wpQuiet_neq (by kernel_rfl) 46 _ _ _ rfl _ _ rfl rfl true (by kernel_rfl) HE.out ?_; (try simp only [Act.put, List.setIfInBounds_toArray, List.set_cons_zero, List.set_cons_succ])) | (go_big_quiet_step (fail))))
      refine wpQuiet_nil ?_
      rintro _ ⟨u, rfl⟩
      have ku := kr.trans u.property
      generalize u.val = wu at *
      go_wp2
      go_roundw
      case rel => exact ⟨k + 1, by go_num, by omega, ku⟩
      case measure => simp [intOf]; omega
    · have hltI : decide ((k : Int) < (N : Int)) = false := by simp; omega
      clear ha hb
      go_wp2
      go_ret
      exact ⟨rfl, kr⟩
end Go.Proofs.Ytmnmphkkcabkiaa

namespace Go.Proofs.Ytmnmphkkcabkiaa
open Go.RowKit
set_option maxHeartbeats 1000000 in
set_option maxRecDepth 100000 in
theorem sameTx_ok {w : World} (t : Tv) {a1 a2 b1 b2 : Option Addr} (c1 c2 d1 d2 : Nat) (hs1 : SWL w a1 t.saws) (hs2 : SWL w a2 t.saws) (hw1 : WRL w b1 t.wrs) (hw2 : WRL w b2 t.wrs) (l1 : t.saws.length ≤ 4611686018427387904) (l2 : t.wrs.length ≤ 4611686018427387904) :
    Calls Try.prog 15 #[.agg (t.cells (.slice a1 t.saws.length c1) (.slice b1 t.wrs.length d1)).toArray, .agg (t.cells (.slice a2 t.saws.length c2) (.slice b2 t.wrs.length d2)).toArray] w fun e w' => e = .returned (.bool true) ∧ Keeps (fun _ => False) w w' := by
  obtain ⟨X, hX⟩ : ∃ X, X = (w.alloc (.cells (t.cells (.slice a1 t.saws.length c1) (.slice b1 t.wrs.length d1)).toArray 42)).alloc (.cells (t.cells (.slice a2 t.saws.length c2) (.slice b2 t.wrs.length d2)).toArray 42) := ⟨_, rfl⟩
  have kX : Keeps (fun _ => False) w X := by rw [hX]; exact ((Keeps.refl _ w).alloc _).alloc _
  have hA : CL X w.heap.size (t.cells (.slice a1 t.saws.length c1) (.slice b1 t.wrs.length d1)) := by
    rw [hX]
    exact (CL.made w (t.cells (.slice a1 t.saws.length c1) (.slice b1 t.wrs.length d1)) 42).alloc (by show 0 < 11; decide) _
  have hB : CL X (w.heap.size + 1) (t.cells (.slice a2 t.saws.length c2) (.slice b2 t.wrs.length d2)) := by
    rw [hX]
    have := CL.made (w.alloc (.cells (t.cells (.slice a1 t.saws.length c1) (.slice b1 t.wrs.length d1)).toArray 42)) (t.cells (.slice a2 t.saws.length c2) (.slice b2 t.wrs.length d2)) 42
    simpa using this
  have hss := sameSaws_ok c1 c2 (hs1.keep kX) (hs2.keep kX) l1
  have HWW : Hid (∀ W, Keeps (fun _ => False) X W → Calls Try.prog 27 #[.slice b1 t.wrs.length d1, .slice b2 t.wrs.length d2] W fun e w' => e = .returned (.bool true) ∧ Keeps (fun _ => False) W w') := fun W k => sameWrites_ok d1 d2 ((hw1.keep kX).keep k) ((hw2.keep kX).keep k) l2
  have HX : Hid (_ = _) := hX
  clear hX hs1 hs2 hw1 hw2 l1 l2
  generalize t.saws.length = ns at *
  generalize t.wrs.length = nw at *
  obtain ⟨th, jb, tr, no, st, bg, fn, en, ou, sa, wr⟩ := t
  have p0 := hA.c 0 _ rfl
  have q0 := hB.c 0 _ rfl
  have p1 := hA.c 1 _ rfl
  have q1 := hB.c 1 _ rfl
  have p2 := hA.c 2 _ rfl
  have q2 := hB.c 2 _ rfl
  have p3 := hA.c 3 _ rfl
  have q3 := hB.c 3 _ rfl
  have p4 := hA.c 4 _ rfl
  have q4 := hB.c 4 _ rfl
  have p5 := hA.c 5 _ rfl
  have q5 := hB.c 5 _ rfl
  have p6 := hA.c 6 _ rfl
  have q6 := hB.c 6 _ rfl
  have p7 := hA.c 7 _ rfl
  have q7 := hB.c 7 _ rfl
  have p8 := hA.c 8 _ rfl
  have q8 := hB.c 8 _ rfl
  have p9 := hA.c 9 _ rfl
  have q9 := hB.c 9 _ rfl
  have p10 := hA.c 10 _ rfl
  have q10 := hB.c 10 _ rfl
  dsimp only at p0 p1 p2 p3 p4 p5 p6 p7 p8 p9 p10 q0 q1 q2 q3 q4 q5 q6 q7 q8 q9 q10
  clear hA hB
  go_enter Try.func15, Try.ntmps15
  refine wp_seq_k (fun KK hKK => ?_)
  have hKH : Hid _ := hKK
  clear hKK
  go_wp2_with fail
  refine hKH.out _ _ ?_
  clear hKH KK
  rw [← HX.out]
  clear HX
  have n1 : (th != th) = false := by simp
  have n2 : (jb != jb) = false := by simp
  have n3 : (tr != tr) = false := by simp
  have n4 : (no != no) = false := by simp
  have n5 : (st != st) = false := by simp
  have n6 : (bg != bg) = false := by simp
  have n7 : (fn != fn) = false := by simp
  have n8 : (en != en) = false := by simp
  have n9 : (ou != ou) = false := by simp
  go_wp2_with (first | (go_at_call 26; refine hss.mono ?_; clear hss; rintro e w2 ⟨rfl, k2⟩; have p10 := k2.cell p10 (fun e => e); have q10 := k2.cell q10 (fun e => e)) | (go_at_call 27; refine (HWW.out w2 k2).mono ?_; clear HWW; rintro e w3 ⟨rfl, k3⟩))
  go_ret
  exact ⟨rfl, (kX.trans k2).trans k3⟩
theorem TL.at {base m i : Nat} {W : World} {v : Value} {ts : List Tv} {sv wv : Nat → Value} {ρ : Nat → Nat} (h : TL base W v ts sv wv ρ m) (hi : i < ts.length) : ∃ g cap, v = .slice (some ⟨g, 0, none⟩) ts.length cap ∧ ∀ W', Keeps (fun _ => False) W W' → (loadVar 42 ⟨g, i * 11, none⟩).run Try.prog W' = .ok (.agg ((ts.getD i tv0).cells (sv i) (wv i)).toArray) W' := by
  rcases h.o.2 with ⟨_, h0⟩ | ⟨g, cap, cur, e, _⟩
  · omega
  subst e
  refine ⟨g, cap, rfl, fun W' k => run_tx (fun j u hu => ?_)⟩
  exact k.cell ((own_cl h.o).c _ _ (gcl_get (fun _ _ => rfl) hi j u hu)) (fun e => e)
theorem TL.sl {base m : Nat} {W : World} {v : Value} {ts : List Tv} {sv wv : Nat → Value} {ρ : Nat → Nat} (h : TL base W v ts sv wv ρ m) : ∃ a cap, v = .slice a ts.length cap := by
  obtain ⟨a, cap, e, -⟩ := own_slice h.o
  exact ⟨a, cap, e⟩
theorem TL.same {base base2 m m2 i : Nat} {W : World} {v v2 : Value} {ts : List Tv} {sv wv sv2 wv2 : Nat → Value} {ρ ρ2 : Nat → Nat} (h : TL base W v ts sv wv ρ m) (h2 : TL base2 W v2 ts sv2 wv2 ρ2 m2) (hi : i < ts.length) (hm : m ≤ 4611686018427387904) :
    Calls Try.prog 15 #[.agg ((ts.getD i tv0).cells (sv i) (wv i)).toArray, .agg ((ts.getD i tv0).cells (sv2 i) (wv2 i)).toArray] W fun e w' => e = .returned (.bool true) ∧ Keeps (fun _ => False) W w' := by
  obtain ⟨a1, c1, e1, s1, -⟩ := swl_of (h.s i hi)
  obtain ⟨a2, c2, e2, s2, -⟩ := swl_of (h2.s i hi)
  obtain ⟨b1, d1, e3, r1, -⟩ := wrl_of (h.w i hi)
  obtain ⟨b2, d2, e4, r2, -⟩ := wrl_of (h2.w i hi)
  rw [e1, e2, e3, e4]
  exact sameTx_ok _ c1 c2 d1 d2 s1 s2 r1 r2 (Nat.le_trans (h.ls i hi).1 hm) (Nat.le_trans (h.ls i hi).2 hm)
end Go.Proofs.Ytmnmphkkcabkiaa

