import Derived.Test.YtmnmphkkcabkiaaG09
import Derived.Test.YtmnmphkkcabkiaaG05
namespace Go.Proofs.Ytmnmphkkcabkiaa
open Go.RowKit
structure VI (f : Nat → Int) (n : Nat) : Prop where
  c : f 31 = (n : Int)
  t : ∀ th, th < 6 → f (th * 5) ≠ 0 → 1 ≤ f (th * 5 + 3) ∧ f (th * 5 + 3) ≤ (n : Int)
theorem VI.start : VI (f0 6) 0 := by
  refine ⟨rfl, fun th ht h => absurd ?_ h⟩
  unfold f0
  rw [if_neg (by omega)]
def beg1 (r : Rw) : Nat := if r.kind = 1 ∨ r.kind = 2 then 1 else 0
theorem up_at (f : Nat → Int) (o : Nat) (v : Int) : up f o v o = v := if_pos rfl
theorem up_ne {f : Nat → Int} {o p : Nat} {v : Int} (h : p ≠ o) : up f o v p = f p := if_neg h
theorem fol3_at {f : Nat → Int} {r : Rw} {th p : Nat} (h : p ≠ th * 5 + 4) : fol3 f r th p = fol2 f r th p := by
  unfold fol3
  split
  · exact up_ne h
  · rfl
theorem folP_at {f : Nat → Int} {r : Rw} {th p : Nat} (hk : r.kind ≠ 0) (h : p ≠ th * 5) (h4 : p ≠ th * 5 + 4) : folP f r th p = fol2 f r th p := by
  unfold folP
  rw [if_neg hk]
  split
  · rw [up_ne h]; exact fol3_at h4
  · split
    · rw [up_ne h]; exact fol3_at h4
    · exact fol3_at h4
structure RO (f : Nat → Int) (n : Nat) (r : Rw) : Prop where
  th : r.kind ≠ 0 → 0 ≤ r.thread ∧ r.thread < 6
  b : r.kind = 1 ∨ r.kind = 2 → r.no = (n : Int) + 1 ∧ r.told = false ∧ r.puts = false ∧ r.fin = 0
  o : ofD r.kind = true → 1 ≤ r.no ∧ r.no ≤ (n : Int)
theorem VI.row {f : Nat → Int} {n : Nat} (h : VI f n) {r : Rw} (hf : fitP f r r.thread.toNat = true) : RO f n r := by
  refine ⟨fun hk => fit_away hf hk, fun hk => ?_, fun hk => ?_⟩
  · have hk0 : r.kind ≠ 0 := by rcases hk with e | e <;> omega
    have ht := fit_away hf hk0
    unfold fitP at hf
    rw [if_neg hk0, if_neg (by omega)] at hf
    rcases hk with e | e
    · rw [if_pos e] at hf
      simp only [Bool.and_eq_true, eq3_iff, sil_iff] at hf
      rw [h.c] at hf
      exact ⟨hf.1.1.2.2.2, hf.2.2.1, hf.2.2.2, hf.2.1⟩
    · rw [if_neg (by omega), if_pos e] at hf
      simp only [Bool.and_eq_true, eq3_iff, sil_iff] at hf
      rw [h.c] at hf
      exact ⟨hf.1.2.2.2, hf.2.2.1, hf.2.2.2, hf.2.1⟩
  · have hk0 : r.kind ≠ 0 := fun e => by rw [e] at hk; cases hk
    have hk1 : r.kind ≠ 1 := fun e => by rw [e] at hk; cases hk
    have hk2 : r.kind ≠ 2 := fun e => by rw [e] at hk; cases hk
    have hk3 : r.kind ≠ 17 := fun e => by rw [e] at hk; cases hk
    have ht := fit_away hf hk0
    unfold fitP at hf
    rw [if_neg hk0, if_neg (by omega), if_neg hk1, if_neg hk2, if_neg hk3] at hf
    simp only [Bool.and_eq_true, eq3_iff, beq_iff_eq] at hf
    obtain ⟨⟨⟨⟨_, h1⟩, _, _, h2⟩, _⟩, _⟩ := hf
    have := h.t r.thread.toNat (by omega) (by rw [h1]; decide)
    rw [h2]
    exact this
theorem VI.next {f : Nat → Int} {n : Nat} (h : VI f n) {r : Rw} (hf : fitP f r r.thread.toNat = true) : VI (folP f r r.thread.toNat) (n + beg1 r) := by
  have hro := h.row hf
  by_cases hk : r.kind = 0
  · have e1 : folP f r r.thread.toNat = f := by unfold folP; rw [if_pos hk]
    have e2 : beg1 r = 0 := by unfold beg1; rw [if_neg (by omega)]
    rw [e1, e2]
    exact h
  have ht := hro.th hk
  have hf' := hf
  obtain ⟨th, hth⟩ : ∃ th, r.thread.toNat = th := ⟨_, rfl⟩
  rw [hth] at hf ⊢
  have htl : th < 6 := by omega
  unfold fitP at hf
  rw [if_neg hk, if_neg (by omega)] at hf
  have f31 : folP f r th 31 = (n : Int) + (beg1 r : Nat) := by
    rw [folP_at hk (by omega) (by omega)]
    unfold fol2 beg1
    by_cases h1 : r.kind = 1
    · rw [if_pos h1, if_pos (.inl h1), up_ne (by omega), up_ne (by omega), up_at, h.c]
      rfl
    · rw [if_neg h1]
      by_cases h2 : r.kind = 2
      · rw [if_pos h2, if_pos (.inr h2), up_ne (by omega), up_ne (by omega), up_at, h.c]
        rfl
      · rw [if_neg h2, if_neg (show ¬ (r.kind = 1 ∨ r.kind = 2) by omega)]
        have g : fol1 f r th 31 = f 31 := by unfold fol1; rw [up_ne (by omega), up_ne (by omega), up_ne (by omega)]
        split
        · rw [up_ne (by omega), g, h.c]; simp
        · rw [g, h.c]; simp
  refine ⟨by rw [f31]; simp, fun q hq hs => ?_⟩
  by_cases e : q = th
  · subst e
    have g3 : folP f r q (q * 5 + 3) = r.no := by
      rw [folP_at hk (by omega) (by omega)]
      have g : fol1 f r q (q * 5 + 3) = r.no := by unfold fol1; rw [up_at]
      unfold fol2
      split
      · rw [up_ne (by omega), up_ne (by omega), up_ne (by omega), up_ne (by omega)]; exact g
      · split
        · rw [up_ne (by omega), up_ne (by omega), up_ne (by omega)]; exact g
        · split
          · rw [up_ne (by omega)]; exact g
          · exact g
    rw [g3]
    by_cases hb : r.kind = 1 ∨ r.kind = 2
    · have := (hro.b hb).1
      have eb : beg1 r = 1 := by unfold beg1; rw [if_pos hb]
      rw [eb, this]
      simp
      omega
    · have eb : beg1 r = 0 := by unfold beg1; rw [if_neg hb]
      rw [eb, Nat.add_zero]
      by_cases h17 : r.kind = 17
      · rw [if_neg (by omega), if_neg (by omega), if_pos h17] at hf
        simp only [Bool.and_eq_true, eq3_iff, beq_iff_eq] at hf
        obtain ⟨⟨h1, _, _, h2⟩, _⟩ := hf
        have := h.t q hq (by rw [h1]; decide)
        rw [h2]
        exact this
      · exact hro.o (ofd_x hk (by omega) (by omega) h17)
  · have gq : ∀ o, o < 5 → folP f r th (q * 5 + o) = f (q * 5 + o) := fun o ho => by
      rw [folP_at hk (by omega) (by omega)]
      have g : fol1 f r th (q * 5 + o) = f (q * 5 + o) := by unfold fol1; rw [up_ne (by omega), up_ne (by omega), up_ne (by omega)]
      unfold fol2
      split
      · rw [up_ne (by omega), up_ne (by omega), up_ne (by omega), up_ne (by omega)]; exact g
      · split
        · rw [up_ne (by omega), up_ne (by omega), up_ne (by omega)]; exact g
        · split
          · rw [up_ne (by omega)]; exact g
          · exact g
    have g0 := gq 0 (by omega)
    rw [Nat.add_zero] at g0
    rw [g0] at hs
    rw [gq 3 (by omega)]
    have := h.t q hq hs
    omega
def stT (s : List Tv × (Nat → Int)) (r : Rw) : List Tv × (Nat → Int) :=
  if r.kind = 1 then (s.1 ++ [begD r r.seen], up s.2 r.thread.toNat r.seen)
  else if r.kind = 2 then (s.1 ++ [begD r (s.2 r.thread.toNat)], s.2)
  else if ofD r.kind = true then (s.1.set (r.no - 1).toNat (addD (s.1.getD (r.no - 1).toNat tv0) r), s.2)
  else s
def txK (l : List Rw) : Nat → List Tv × (Nat → Int)
  | 0 => ([], fun _ => 0)
  | k + 1 => stT (txK l k) (l.getD k rw0)
theorem stT_len (s : List Tv × (Nat → Int)) (r : Rw) : (stT s r).1.length = s.1.length + beg1 r := by
  unfold stT beg1
  split
  · rename_i h
    rw [if_pos (.inl h), List.length_append]
    rfl
  · split
    · rename_i h
      rw [if_pos (.inr h), List.length_append]
      rfl
    · rename_i h1 h2
      rw [if_neg (show ¬ (r.kind = 1 ∨ r.kind = 2) by omega)]
      split
      · simp
      · simp
theorem txK_vi {l : List Rw} (h : fstP l 0 (f0 6) = none) : ∀ k, k ≤ l.length → VI (fAt l k) (txK l k).1.length
  | 0, _ => VI.start
  | k + 1, hk => by
    have ih := txK_vi h k (by omega)
    show VI (folP (fAt l k) (l.getD k rw0) (l.getD k rw0).thread.toNat) (stT (txK l k) (l.getD k rw0)).1.length
    rw [stT_len]
    exact ih.next (row_ok h (by omega)).2
theorem txK_ro {l : List Rw} (h : fstP l 0 (f0 6) = none) {k : Nat} (hk : k < l.length) : RO (fAt l k) (txK l k).1.length (l.getD k rw0) := (txK_vi h k (by omega)).row (row_ok h hk).2
theorem txK_le (l : List Rw) : ∀ k, (txK l k).1.length ≤ k
  | 0 => Nat.zero_le _
  | k + 1 => by
    have ih := txK_le l k
    show (stT (txK l k) (l.getD k rw0)).1.length ≤ k + 1
    rw [stT_len]
    unfold beg1
    split <;> omega
theorem txK_mono (l : List Rw) : ∀ k d, (txK l k).1.length ≤ (txK l (k + d)).1.length
  | _, 0 => Nat.le_refl _
  | k, d + 1 => by
    have ih := txK_mono l k d
    show _ ≤ (stT (txK l (k + d)) (l.getD (k + d) rw0)).1.length
    rw [stT_len]
    omega
def relS (e : Int) (s : Sw) : Sw := if s.entry = e then { s with rel := true } else s
def relR (ts : List Tv) (r : Rw) : List Tv := if r.kind = 4 ∧ 0 ≤ r.entry then ts.set (r.no - 1).toNat { ts.getD (r.no - 1).toNat tv0 with saws := (ts.getD (r.no - 1).toNat tv0).saws.map (relS r.entry) } else ts
def rlK (l : List Rw) (ts : List Tv) : Nat → List Tv
  | 0 => ts
  | k + 1 => relR (rlK l ts k) (l.getD k rw0)
def txD (l : List Rw) : List Tv := rlK l (txK l l.length).1 l.length
theorem rlK_len (l : List Rw) (ts : List Tv) : ∀ k, (rlK l ts k).length = ts.length
  | 0 => rfl
  | k + 1 => by
    have ih := rlK_len l ts k
    show (relR (rlK l ts k) (l.getD k rw0)).length = _
    unfold relR
    split
    · rw [List.length_set]; exact ih
    · exact ih
end Go.Proofs.Ytmnmphkkcabkiaa

namespace Go.Proofs.Ytmnmphkkcabkiaa
open Go.RowKit
attribute [local go_sem] Oper.semAt_some run_store_nf run_store_f
theorem sv_len (t : Tv) (r : Rw) : (addD t r).saws.length ≤ t.saws.length + 1 ∧ (addD t r).wrs.length ≤ t.wrs.length + 1 := by
  have e1 : (addE (addF t r) r).saws = t.saws ∧ (addE (addF t r) r).wrs = t.wrs := by
    unfold addE addF
    split <;> split <;> exact ⟨rfl, rfl⟩
  unfold addD
  generalize addE (addF t r) r = u at *
  have h2 : (addS u r).saws.length ≤ u.saws.length + 1 ∧ (addS u r).wrs = u.wrs := by
    unfold addS
    split
    · exact ⟨by simp, rfl⟩
    · exact ⟨by omega, rfl⟩
  have h3 : (addW (addS u r) r).saws = (addS u r).saws ∧ (addW (addS u r) r).wrs.length ≤ (addS u r).wrs.length + 1 := by
    unfold addW
    split
    · exact ⟨rfl, putD_len _ _⟩
    · exact ⟨rfl, by omega⟩
  rw [h3.1, ← e1.1, ← e1.2]
  refine ⟨h2.1, ?_⟩
  rw [← h2.2]
  exact h3.2
theorem getD_set_eq {ts : List Tv} {i : Nat} {t : Tv} (h : i < ts.length) : (ts.set i t).getD i tv0 = t := by
  rw [List.getD_eq_getElem?_getD, List.getElem?_set_self h]
  rfl
theorem getD_set_ne {ts : List Tv} {i j : Nat} {t : Tv} (h : j ≠ i) : (ts.set i t).getD j tv0 = ts.getD j tv0 := by
  rw [List.getD_eq_getElem?_getD, List.getD_eq_getElem?_getD, List.getElem?_set_ne (fun e => h e.symm)]
theorem TL.set {base m g cap n : Nat} {W W' : World} {ts : List Tv} {sv wv : Nat → Value} {ρ : Nat → Nat} {i : Nat} {t' : Tv} {sv' wv' : Value} (h : TL base W (.slice (some ⟨g, 0, none⟩) n cap) ts sv wv ρ m) (hn : ts.length = n) (hi : i < ts.length) (ha : AF base W W' t' (sv i) (wv i) sv' wv') (hl : t'.saws.length ≤ m + 1 ∧ t'.wrs.length ≤ m + 1) :
    TL base (W'.setCells g (i * 11) (t'.cells sv' wv')) (.slice (some ⟨g, 0, none⟩) n cap) (ts.set i t') (fun j => if j = i then sv' else sv j) (fun j => if j = i then wv' else wv j) (fun b => if b < W.heap.size then ρ b else if sv'.ownBlock = some b then 2 + 2 * i else 3 + 2 * i) (m + 1) ∧ Keeps (fun b => base ≤ b) W (W'.setCells g (i * 11) (t'.cells sv' wv')) := by
  have hg1 := h.r0 g rfl
  have hgl := owns_lt' h.o g rfl
  have kk : Keeps (fun b => b = g) W' (W'.setCells g (i * 11) (t'.cells sv' wv')) := (Keeps.refl (fun b => b = g) W').setsA _ _
  have hs' : ∀ b, sv'.ownBlock = some b → b ≠ g := fun b e e' => by
    rcases ha.bs b e with h1 | h1
    · have := h.rs i hi b h1; rw [e'] at this; omega
    · omega
  have hw' : ∀ b, wv'.ownBlock = some b → b ≠ g := fun b e e' => by
    rcases ha.bw b e with h1 | h1
    · have := h.rw i hi b h1; rw [e'] at this; omega
    · omega
  have ho' : W'.ownsRow base 42 11 (.slice (some ⟨g, 0, none⟩) n cap) n (tcl ts sv wv) := ha.k.owns (hn ▸ h.o) (fun b e e' => by have := h.rs i hi b e'; have := h.r0 b e; omega)
  have hlc : (tcl ts sv wv).length = ts.length * 11 := gcl_len (fun _ _ => rfl)
  refine ⟨⟨?_, fun j hj => ?_, fun j hj => ?_, fun b e => ?_, fun j hj b e => ?_, fun j hj b e => ?_, fun j hj => ?_, ?_⟩, ?_⟩
  · have h1 := owns_sets (t'.cells sv' wv') (i * 11) ho' (by rw [hlc, tv_len]; omega)
    rw [List.length_set, hn]
    have e1 : sets (tcl ts sv wv) (i * 11) (t'.cells sv' wv') = tcl (ts.set i t') (fun j => if j = i then sv' else sv j) (fun j => if j = i then wv' else wv j) := by
      unfold tcl
      rw [gcl_sets rfl (fun _ _ => rfl) hi, List.length_set]
      refine gcl_congr (fun j hj => ?_)
      by_cases e : j = i
      · subst e
        rw [if_pos rfl, getD_set_eq hj]
        dsimp only
        rw [if_pos rfl, if_pos rfl]
      · rw [if_neg e, getD_set_ne e]
        dsimp only
        rw [if_neg e, if_neg e]
    rw [← e1]
    exact h1
  · rw [List.length_set] at hj
    by_cases e : j = i
    · subst e
      rw [if_pos rfl, getD_set_eq hj]
      exact kk.owns ha.os (fun b e => hs' b e)
    · rw [if_neg e, getD_set_ne e]
      exact kk.owns (ha.k.owns (h.s j hj) (fun b e1 e2 => by have := h.rs j hj b e1; have := h.rs i hi b e2; omega)) (fun b e1 e2 => by have e2 : b = g := e2; have := h.rs j hj b e1; rw [e2] at this; omega)
  · rw [List.length_set] at hj
    by_cases e : j = i
    · subst e
      rw [if_pos rfl, getD_set_eq hj]
      exact kk.owns ha.ow (fun b e => hw' b e)
    · rw [if_neg e, getD_set_ne e]
      exact kk.owns (ha.k.owns (h.w j hj) (fun b e1 e2 => by have := h.rw j hj b e1; have := h.rs i hi b e2; omega)) (fun b e1 e2 => by have e2 : b = g := e2; have := h.rw j hj b e1; rw [e2] at this; omega)
  · have e : some g = some b := e
    injection e with e
    subst e
    rw [if_pos hgl]
    exact hg1
  · rw [List.length_set] at hj
    by_cases e' : j = i
    · subst e'
      rw [if_pos rfl] at e
      rcases ha.bs b e with h1 | h1
      · rw [if_pos (owns_lt' (h.s j hj) b h1)]
        exact h.rs j hj b h1
      · rw [if_neg (by omega), if_pos e]
    · rw [if_neg e'] at e
      rw [if_pos (owns_lt' (h.s j hj) b e)]
      exact h.rs j hj b e
  · rw [List.length_set] at hj
    by_cases e' : j = i
    · subst e'
      rw [if_pos rfl] at e
      rcases ha.bw b e with h1 | h1
      · rw [if_pos (owns_lt' (h.w j hj) b h1)]
        exact h.rw j hj b h1
      · rw [if_neg (by omega), if_neg (fun e2 => ha.ne b e2 e)]
    · rw [if_neg e'] at e
      rw [if_pos (owns_lt' (h.w j hj) b e)]
      exact h.rw j hj b e
  · rw [List.length_set] at hj
    by_cases e : j = i
    · subst e
      rw [getD_set_eq hj]
      exact hl
    · rw [getD_set_ne e]
      have := h.ls j hj
      omega
  · exact Nat.le_trans h.bb (Nat.le_trans ha.k.size kk.size)
  · exact ha.k.trans' kk (fun b _ e => owns_baseT (h.s i hi) b e) (fun b _ e => by have e : b = g := e; subst e; exact owns_baseT h.o b rfl)
end Go.Proofs.Ytmnmphkkcabkiaa

