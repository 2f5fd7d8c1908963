import Derived.Test.YtmnmphkkcabkiaaG10
import Derived.Test.YtmnmphkkcabkiaaG04
namespace Go.Proofs.Ytmnmphkkcabkiaa
open Go.RowKit
structure TvI (t : Tv) : Prop where
  s : ∀ s ∈ t.saws, s.rel = false ∧ I64 s.entry
  i : Inc t.wrs
  w : ∀ x ∈ t.wrs, I64 x.object
theorem TvI.add {t : Tv} (h : TvI t) {r : Rw} (h1 : I64 r.object) (h2 : I64 r.entry) : TvI (addD t r) := by
  have a1 : TvI (addF t r) := by
    unfold addF
    split
    · exact ⟨h.s, h.i, h.w⟩
    · exact h
  have a2 : TvI (addE (addF t r) r) := by
    unfold addE
    split
    · exact a1
    · exact ⟨a1.s, a1.i, a1.w⟩
  have a3 : TvI (addS (addE (addF t r) r) r) := by
    generalize addE (addF t r) r = u at a2 ⊢
    unfold addS
    split
    · refine ⟨fun s hs => ?_, a2.i, a2.w⟩
      rcases List.mem_append.1 hs with h | h
      · exact a2.s s h
      · rw [List.mem_singleton.1 h]
        exact ⟨rfl, h2⟩
    · exact a2
  unfold addD
  generalize addS (addE (addF t r) r) r = u at a3 ⊢
  unfold addW
  split
  · refine ⟨a3.s, ?_, fun x hx => ?_⟩
    · show Inc (putD u.wrs (wroD r))
      rw [putD_ins a3.i]
      exact a3.i.ins
    · have hx : x ∈ putD u.wrs (wroD r) := hx
      rw [putD_ins a3.i] at hx
      rcases mem_ins hx with h | h
      · rw [h]
        exact h1
      · exact a3.w x h
  · exact a3
theorem TvI.beg (r : Rw) (st : Int) : TvI (begD r st) := ⟨fun s hs => (by simp [begD] at hs), List.Pairwise.nil, fun s hs => (by simp [begD] at hs)⟩
theorem tvi_inv {l : List Rw} (h : fstP l 0 (f0 6) = none) (hi64 : ∀ k, k < l.length → I64 (l.getD k rw0).object ∧ I64 (l.getD k rw0).entry) : ∀ k, k ≤ l.length → ∀ i, i < (txK l k).1.length → TvI ((txK l k).1.getD i tv0)
  | 0, _, i, hi => absurd hi (Nat.not_lt_zero _)
  | k + 1, hk, i, hi => by
    have ih := tvi_inv h hi64 k (by omega)
    have hst := hi64 k (by omega)
    have hi' : i < (stT (txK l k) (l.getD k rw0)).1.length := hi
    show TvI ((stT (txK l k) (l.getD k rw0)).1.getD i tv0)
    generalize l.getD k rw0 = r at *
    generalize txK l k = s at *
    rw [stT_len] at hi'
    unfold beg1 at hi'
    unfold stT
    have app : ∀ st, i < s.1.length + 1 → TvI ((s.1 ++ [begD r st]).getD i tv0) := fun st hi => by
      by_cases e : i = s.1.length
      · subst e
        rw [getD_app_right]
        exact TvI.beg r st
      · rw [getD_app_left (by omega)]
        exact ih i (by omega)
    by_cases h1 : r.kind = 1
    · rw [if_pos (.inl h1)] at hi'
      rw [if_pos h1]
      exact app _ hi'
    rw [if_neg h1]
    by_cases h2 : r.kind = 2
    · rw [if_pos (.inr h2)] at hi'
      rw [if_pos h2]
      exact app _ hi'
    rw [if_neg (show ¬ (r.kind = 1 ∨ r.kind = 2) by omega)] at hi'
    rw [if_neg h2]
    by_cases hof : ofD r.kind = true
    · rw [if_pos hof]
      dsimp only
      by_cases e : i = (r.no - 1).toNat
      · subst e
        rw [getD_set_eq (by omega)]
        exact (ih _ (by omega)).add hst.1 hst.2
      · rw [getD_set_ne e]
        exact ih i (by omega)
    · rw [if_neg hof]
      exact ih i (by omega)
theorem telG_relG {c : Int → Nat} {s : Sw} (h : s.rel = false) : telG c s = relG c s := by
  unfold telG relG
  by_cases hc : 0 < c s.entry
  · rw [if_pos hc, decide_eq_true hc]
  · rw [if_neg hc, decide_eq_false hc, ← h]
def telT (t : Tv) (c : Int → Nat) : Tv := { t with saws := t.saws.map (telG c) }
def telL (T : Nat → Tv) (c : Nat → Int → Nat) (n : Nat) : List Tv := (List.range n).map (fun i => telT (T i) (c i))
theorem telL_len (T : Nat → Tv) (c : Nat → Int → Nat) (n : Nat) : (telL T c n).length = n := by unfold telL; simp
theorem telL_get {T : Nat → Tv} {c : Nat → Int → Nat} {n i : Nat} (hi : i < n) : (telL T c n).getD i tv0 = telT (T i) (c i) := by
  unfold telL
  rw [List.getD_eq_getElem?_getD, List.getElem?_map, List.getElem?_range hi]
  rfl
theorem rel_entry {l : List Rw} (h : fstP l 0 (f0 6) = none) (k : Nat) (hk : k < l.length) (h4 : (l.getD k rw0).kind = 4) : -1 ≤ (l.getD k rw0).entry := fit_rel (row_ok h hk).2 h4
theorem telL_txD {l : List Rw} (h : fstP l 0 (f0 6) = none) (hi64 : ∀ k, k < l.length → I64 (l.getD k rw0).object ∧ I64 (l.getD k rw0).entry) : telL (fun i => (txK l l.length).1.getD i tv0) (cK l l.length) (txK l l.length).1.length = txD l := by
  have hlen : (txD l).length = (txK l l.length).1.length := rlK_len _ _ _
  refine List.ext_getElem (by rw [telL_len, hlen]) (fun i h1 h2 => ?_)
  rw [telL_len] at h1
  have e1 : (telL (fun i => (txK l l.length).1.getD i tv0) (cK l l.length) (txK l l.length).1.length)[i]'(by rw [telL_len]; exact h1) = (telL (fun i => (txK l l.length).1.getD i tv0) (cK l l.length) (txK l l.length).1.length).getD i tv0 := by
    rw [List.getD_eq_getElem?_getD, List.getElem?_eq_getElem (by rw [telL_len]; exact h1)]; rfl
  have e2 : (txD l)[i] = (txD l).getD i tv0 := by rw [List.getD_eq_getElem?_getD, List.getElem?_eq_getElem h2]; rfl
  rw [e1, e2, telL_get h1]
  have e3 : (txD l).getD i tv0 = _ := rlK_saws (ts := (txK l l.length).1) (n := l.length) (fun k hk h4 => rel_entry h k hk h4) l.length (Nat.le_refl _) i h1
  rw [e3]
  have hT := tvi_inv h hi64 l.length (Nat.le_refl _) i h1
  unfold telT
  rw [List.map_congr_left (fun s hs => telG_relG (hT.s s hs).1)]
end Go.Proofs.Ytmnmphkkcabkiaa

namespace Go.Proofs.Ytmnmphkkcabkiaa
open Go.RowKit
theorem addD_end {t : Tv} {r : Rw} : (addD t r).end_ = if r.fin = 0 then t.end_ else r.step := by
  have e1 : (addD t r).end_ = (addE (addF t r) r).end_ := by
    unfold addD addW addS
    repeat (first | rfl | split)
  rw [e1]
  unfold addE
  split
  · unfold addF
    split <;> rfl
  · rfl
theorem addD_wrs {t : Tv} {r : Rw} : (addD t r).wrs = if r.puts = true then putD t.wrs (wroD r) else t.wrs := by
  have e0 : (addS (addE (addF t r) r) r).wrs = t.wrs := by
    unfold addS addE addF
    repeat (first | rfl | split)
  unfold addD addW
  split
  · show putD (addS (addE (addF t r) r) r).wrs _ = _
    rw [e0]
  · exact e0
theorem fol_state {f : Nat → Int} {r : Rw} {th : Nat} (hk : r.kind ≠ 0) : folP f r th (th * 5) = if dec r.fin then 3 else if r.fin != 0 then 2 else if r.kind = 1 ∨ r.kind = 2 then 1 else if r.kind = 17 then 0 else f (th * 5) := by
  have g : fol3 f r th (th * 5) = if r.kind = 1 ∨ r.kind = 2 then 1 else if r.kind = 17 then 0 else f (th * 5) := by
    rw [fol3_at (by omega)]
    unfold fol2
    by_cases h1 : r.kind = 1
    · rw [if_pos h1, if_pos (.inl h1), up_ne (by omega), up_at]
    · rw [if_neg h1]
      by_cases h2 : r.kind = 2
      · rw [if_pos h2, if_pos (.inr h2), up_ne (by omega), up_at]
      · rw [if_neg h2, if_neg (show ¬ (r.kind = 1 ∨ r.kind = 2) by omega)]
        by_cases h3 : r.kind = 17
        · rw [if_pos h3, if_pos h3, up_at]
        · rw [if_neg h3, if_neg h3]
          unfold fol1
          rw [up_ne (by omega), up_ne (by omega), up_ne (by omega)]
  unfold folP
  rw [if_neg hk]
  split
  · rw [up_at]
  · split
    · rw [up_at]
    · exact g
theorem fit_live {f : Nat → Int} {r : Rw} {th : Nat} (h : fitP f r th = true) (hof : ofD r.kind = true) : r.no = f (th * 5 + 3) ∧ f (th * 5) = 1 := by
  have hk0 : r.kind ≠ 0 := fun e => by rw [e] at hof; cases hof
  have hk1 : r.kind ≠ 1 := fun e => by rw [e] at hof; cases hof
  have hk2 : r.kind ≠ 2 := fun e => by rw [e] at hof; cases hof
  have hk3 : r.kind ≠ 17 := fun e => by rw [e] at hof; cases hof
  unfold fitP at h
  rw [if_neg hk0] at h
  by_cases hth : r.thread < 0 ∨ 6 ≤ r.thread
  · rw [if_pos hth] at h; cases h
  · rw [if_neg hth, if_neg hk1, if_neg hk2, if_neg hk3] at h
    simp only [Bool.and_eq_true, eq3_iff, beq_iff_eq] at h
    obtain ⟨⟨⟨⟨_, h1⟩, _, _, h2⟩, _⟩, _⟩ := h
    exact ⟨h2, h1⟩
theorem fit_quiet {f : Nat → Int} {r : Rw} {th : Nat} (h : fitP f r th = true) (hof : ofD r.kind = false) : r.fin = 0 ∧ r.puts = false := by
  by_cases h0 : r.kind = 0
  · unfold fitP at h
    rw [if_pos h0] at h
    simp only [Bool.and_eq_true, sil_iff] at h
    exact ⟨h.2.1, h.2.2.2⟩
  unfold fitP at h
  rw [if_neg h0] at h
  split at h
  · cases h
  · by_cases h1 : r.kind = 1
    · rw [if_pos h1] at h
      simp only [Bool.and_eq_true, sil_iff] at h
      exact ⟨h.2.1, h.2.2.2⟩
    · rw [if_neg h1] at h
      by_cases h2 : r.kind = 2
      · rw [if_pos h2] at h
        simp only [Bool.and_eq_true, sil_iff] at h
        exact ⟨h.2.1, h.2.2.2⟩
      · rw [if_neg h2] at h
        by_cases h3 : r.kind = 17
        · rw [if_pos h3] at h
          simp only [Bool.and_eq_true, sil_iff] at h
          exact ⟨h.2.1, h.2.2.2⟩
        · exact absurd (ofd_x h0 h1 h2 h3) (by rw [hof]; decide)
theorem fit_puts {f : Nat → Int} {r : Rw} {th : Nat} (h : fitP f r th = true) (hp : r.puts = true) : 0 ≤ r.object := by
  have hof : ofD r.kind = true := by
    cases e : ofD r.kind with
    | true => rfl
    | false => have := (fit_quiet h e).2; rw [hp] at this; cases this
  have hk0 : r.kind ≠ 0 := fun e => by rw [e] at hof; cases hof
  have hk1 : r.kind ≠ 1 := fun e => by rw [e] at hof; cases hof
  have hk2 : r.kind ≠ 2 := fun e => by rw [e] at hof; cases hof
  have hk3 : r.kind ≠ 17 := fun e => by rw [e] at hof; cases hof
  unfold fitP at h
  rw [if_neg hk0] at h
  by_cases hth : r.thread < 0 ∨ 6 ≤ r.thread
  · rw [if_pos hth] at h; cases h
  · rw [if_neg hth, if_neg hk1, if_neg hk2, if_neg hk3] at h
    simp only [Bool.and_eq_true] at h
    have h1 := h.2
    unfold readP at h1
    split at h1
    · cases h1
    · rename_i hn
      simp [hp] at hn
      omega
structure LV (f : Nat → Int) (ts : List Tv) : Prop where
  d : ∀ th th', th < 6 → th' < 6 → f (th * 5) = 1 → f (th' * 5) = 1 → f (th * 5 + 3) = f (th' * 5 + 3) → th = th'
  e : ∀ th, th < 6 → f (th * 5) = 1 → (ts.getD (f (th * 5 + 3) - 1).toNat tv0).end_ = -1
theorem LV.start : LV (f0 6) [] := by
  have h0 : ∀ th, th < 6 → f0 6 (th * 5) = 0 := fun th ht => by unfold f0; rw [if_neg (by omega)]
  exact ⟨fun th th' h1 _ h => (by rw [h0 th h1] at h; cases h), fun th h1 h => (by rw [h0 th h1] at h; cases h)⟩
theorem LV.next {f : Nat → Int} {ts : List Tv} {g : Nat → Int} (h : LV f ts) (hv : VI f ts.length) {r : Rw} (hf : fitP f r r.thread.toNat = true) : LV (folP f r r.thread.toNat) (stT (ts, g) r).1 := by
  have hro := hv.row hf
  by_cases hk : r.kind = 0
  · have e1 : folP f r r.thread.toNat = f := by unfold folP; rw [if_pos hk]
    have e2 : (stT (ts, g) r).1 = ts := by
      unfold stT
      rw [if_neg (by omega), if_neg (by omega), if_neg (by rw [hk]; decide)]
    rw [e1, e2]
    exact h
  have ht := hro.th hk
  obtain ⟨th, hth⟩ : ∃ th, r.thread.toNat = th := ⟨_, rfl⟩
  have htl : th < 6 := by omega
  rw [hth] at hf ⊢
  have hst := fol_state (f := f) (r := r) (th := th) hk
  have hno : folP f r th (th * 5 + 3) = r.no := folP_no hk
  have hot : ∀ q o, q < 6 → q ≠ th → o < 5 → folP f r th (q * 5 + o) = f (q * 5 + o) := fun q o hq e ho => folP_other hk hq e ho
  have ho0 : ∀ q, q < 6 → q ≠ th → folP f r th (q * 5) = f (q * 5) := fun q hq e => by have := hot q 0 hq e (by omega); rwa [Nat.add_zero] at this
  have hnb : ∀ q, q < 6 → f (q * 5) = 1 → 1 ≤ f (q * 5 + 3) ∧ f (q * 5 + 3) ≤ (ts.length : Int) := fun q hq e => hv.t q hq (by rw [e]; decide)
  by_cases hb : r.kind = 1 ∨ r.kind = 2
  · have hrb := hro.b hb
    have hst1 : folP f r th (th * 5) = 1 := by
      rw [hst, hrb.2.2.2]
      rw [if_neg (by decide), if_neg (by decide), if_pos hb]
    have hts : ∃ st, (stT (ts, g) r).1 = ts ++ [begD r st] := by
      unfold stT
      rcases hb with e | e
      · rw [if_pos e]; exact ⟨_, rfl⟩
      · rw [if_neg (by omega), if_pos e]; exact ⟨_, rfl⟩
    obtain ⟨st, hts⟩ := hts
    rw [hts]
    refine ⟨fun a b ha hb' ea eb e => ?_, fun q hq eq => ?_⟩
    · by_cases h1 : a = th
      · by_cases h2 : b = th
        · omega
        · subst h1
          rw [hno, hot b 3 hb' h2 (by omega)] at e
          rw [ho0 b hb' h2] at eb
          have := hnb b hb' eb
          omega
      · by_cases h2 : b = th
        · subst h2
          rw [hno, hot a 3 ha h1 (by omega)] at e
          rw [ho0 a ha h1] at ea
          have := hnb a ha ea
          omega
        · rw [hot a 3 ha h1 (by omega), hot b 3 hb' h2 (by omega)] at e
          rw [ho0 a ha h1] at ea
          rw [ho0 b hb' h2] at eb
          exact h.d a b ha hb' ea eb e
    · by_cases h1 : q = th
      · subst h1
        rw [hno, hrb.1, show ((ts.length : Int) + 1 - 1).toNat = ts.length by omega, getD_app_right]
        rfl
      · rw [ho0 q hq h1] at eq
        rw [hot q 3 hq h1 (by omega)]
        have := hnb q hq eq
        rw [getD_app_left (by omega)]
        exact h.e q hq eq
  · by_cases hof : ofD r.kind = true
    · obtain ⟨l1, l2⟩ := fit_live hf hof
      have hb3 := hnb th htl l2
      have hk17 : r.kind ≠ 17 := fun e => by rw [e] at hof; cases hof
      have hts : (stT (ts, g) r).1 = ts.set (r.no - 1).toNat (addD (ts.getD (r.no - 1).toNat tv0) r) := by
        unfold stT
        rw [if_neg (fun e => hb (.inl e)), if_neg (fun e => hb (.inr e)), if_pos hof]
      rw [hts]
      have hin : (r.no - 1).toNat < ts.length := by omega
      have live : folP f r th (th * 5) = 1 → r.fin = 0 := fun e => by
        rw [hst] at e
        split at e
        · cases e
        · split at e
          · cases e
          · rename_i h2
            simpa using h2
      refine ⟨fun a b ha hb' ea eb e => ?_, fun q hq eq => ?_⟩
      · by_cases h1 : a = th
        · by_cases h2 : b = th
          · omega
          · subst h1
            rw [hno, hot b 3 hb' h2 (by omega), l1] at e
            rw [ho0 b hb' h2] at eb
            exact absurd (h.d a b ha hb' l2 eb e).symm h2
        · by_cases h2 : b = th
          · subst h2
            rw [hno, hot a 3 ha h1 (by omega), l1] at e
            rw [ho0 a ha h1] at ea
            exact absurd (h.d a b ha hb' ea l2 e) h1
          · rw [hot a 3 ha h1 (by omega), hot b 3 hb' h2 (by omega)] at e
            rw [ho0 a ha h1] at ea
            rw [ho0 b hb' h2] at eb
            exact h.d a b ha hb' ea eb e
      · by_cases h1 : q = th
        · subst h1
          rw [hno, getD_set_eq hin, addD_end, if_pos (live eq), l1]
          exact h.e q hq l2
        · rw [ho0 q hq h1] at eq
          rw [hot q 3 hq h1 (by omega)]
          have hqb := hnb q hq eq
          have hne : (f (q * 5 + 3) - 1).toNat ≠ (r.no - 1).toNat := fun e => h1 (h.d q th hq htl eq l2 (by omega))
          rw [getD_set_ne hne]
          exact h.e q hq eq
    · have hof : ofD r.kind = false := by simpa using hof
      have hfin := (fit_quiet hf hof).1
      have hk17 : r.kind = 17 := by
        by_cases e : r.kind = 17
        · exact e
        · exact absurd (ofd_x hk (fun e => hb (.inl e)) (fun e => hb (.inr e)) e) (by rw [hof]; decide)
      have hst0 : folP f r th (th * 5) = 0 := by
        rw [hst, hfin, if_neg (by decide), if_neg (by decide), if_neg hb, if_pos hk17]
      have hts : (stT (ts, g) r).1 = ts := by
        unfold stT
        rw [if_neg (fun e => hb (.inl e)), if_neg (fun e => hb (.inr e)), if_neg (by rw [hof]; decide)]
      rw [hts]
      have nl : ∀ q, q < 6 → folP f r th (q * 5) = 1 → q ≠ th := fun q _ e h1 => by
        rw [h1, hst0] at e
        cases e
      refine ⟨fun a b ha hb' ea eb e => ?_, fun q hq eq => ?_⟩
      · have h1 := nl a ha ea
        have h2 := nl b hb' eb
        rw [hot a 3 ha h1 (by omega), hot b 3 hb' h2 (by omega)] at e
        rw [ho0 a ha h1] at ea
        rw [ho0 b hb' h2] at eb
        exact h.d a b ha hb' ea eb e
      · have h1 := nl q hq eq
        rw [ho0 q hq h1] at eq
        rw [hot q 3 hq h1 (by omega)]
        exact h.e q hq eq
theorem lv_inv {l : List Rw} (h : fstP l 0 (f0 6) = none) : ∀ k, k ≤ l.length → LV (fAt l k) (txK l k).1
  | 0, _ => LV.start
  | k + 1, hk => (lv_inv h k (by omega)).next (g := (txK l k).2) (txK_vi h k (by omega)) (row_ok h (by omega)).2
end Go.Proofs.Ytmnmphkkcabkiaa

namespace Go.Proofs.Ytmnmphkkcabkiaa
open Go.RowKit
structure V3 where
  num : Int
  next : Int
  dead : Bool
def v30 : V3 := ⟨0, 0, false⟩
def V3.cells (v : V3) : List Value := [.int .i64 v.num, .int .i64 v.next, .bool v.dead]
def Wo.v3 (x : Wo) : V3 := ⟨x.vN, x.vX, x.vD⟩
def gvl (F : Nat → V3) (n : Nat) : List Value := (List.range n).flatMap (fun i => (F i).cells)
theorem gvl_succ (F : Nat → V3) (n : Nat) : gvl F (n + 1) = gvl F n ++ (F n).cells := by
  unfold gvl
  rw [List.range_succ, List.flatMap_append]
  simp
theorem gvl_len (F : Nat → V3) : ∀ n, (gvl F n).length = n * 3
  | 0 => rfl
  | n + 1 => by
    rw [gvl_succ, List.length_append, gvl_len F n]
    show n * 3 + 3 = (n + 1) * 3
    omega
theorem gvl_get {F : Nat → V3} {i : Nat} : ∀ {n : Nat}, i < n → ∀ j u, (F i).cells[j]? = some u → (gvl F n)[i * 3 + j]? = some u
  | 0, h, _, _, _ => by omega
  | n + 1, h, j, u, e => by
    have hj : j < 3 := (List.getElem?_eq_some_iff.1 e).1
    have hl := gvl_len F n
    rw [gvl_succ]
    by_cases hk : i = n
    · subst hk
      rw [List.getElem?_append_right (by omega), hl, show i * 3 + j - i * 3 = j by omega]
      exact e
    · rw [List.getElem?_append_left (by omega)]
      exact gvl_get (by omega) j u e
theorem gvl_congr {F G : Nat → V3} : ∀ {n : Nat}, (∀ i, i < n → F i = G i) → gvl F n = gvl G n
  | 0, _ => rfl
  | n + 1, h => by rw [gvl_succ, gvl_succ, gvl_congr (fun i hi => h i (by omega)), h n (by omega)]
theorem gvl_sets {F : Nat → V3} {i : Nat} {v : V3} : ∀ {n : Nat}, i < n → sets (gvl F n) (i * 3) v.cells = gvl (fun j => if j = i then v else F j) n
  | 0, h => by omega
  | n + 1, h => by
    have hl := gvl_len F n
    have hv : v.cells.length = 3 := rfl
    have hn : (F n).cells.length = 3 := rfl
    rw [gvl_succ, gvl_succ]
    by_cases hk : i = n
    · subst hk
      rw [if_pos rfl, gvl_congr (F := fun j => if j = i then v else F j) (G := F) (fun j hj => if_neg (by omega))]
      unfold sets
      rw [List.take_append_of_le_length (by omega), List.take_of_length_le (by omega), List.drop_of_length_le (by rw [List.length_append]; omega), List.append_nil]
    · rw [if_neg (fun e => hk e.symm), ← gvl_sets (by omega)]
      unfold sets
      rw [List.take_append_of_le_length (by omega), List.drop_append_of_le_length (by omega), List.append_assoc, List.append_assoc, List.append_assoc]
def wov : List Wo → Int → Option V3
  | [], _ => none
  | x :: l, o => if x.object = o then some x.v3 else wov l o
theorem wov_some {o : Int} : ∀ {l : List Wo}, (wof l o).isSome = (wov l o).isSome
  | [] => rfl
  | x :: l => by
    unfold wof wov
    split
    · rfl
    · exact wov_some
theorem val_v3 {x y : Wo} (h : x.val = y.val) : x.v3 = y.v3 := by
  unfold Wo.val at h
  injection h with h
  injection h with h
  injection h with h1 h2
  injection h2 with h2 h3
  injection h3 with h3 _
  injection h1 with _ h1
  injection h2 with _ h2
  injection h3 with h3
  unfold Wo.v3
  rw [h1, h2, h3]
theorem wov_at {o : Int} {y : Wo} : ∀ {l : List Wo}, wof l o = some y.val → wov l o = some y.v3
  | [], h => by cases h
  | x :: l, h => by
    unfold wof at h
    unfold wov
    split
    · rename_i e
      rw [if_pos e] at h
      rw [val_v3 (Option.some.inj h)]
    · rename_i e
      rw [if_neg e] at h
      exact wov_at h
def layF (ws : List Wo) (F : Nat → V3) : Nat → V3 := fun i => (wov ws (i : Int)).getD (F i)
def fwK (l : List Rw) (F0 : Nat → V3) : Nat → (Nat → V3)
  | 0 => F0
  | k + 1 => if (l.getD k rw0).fin = 1 then layF ((txK l (k + 1)).1.getD ((l.getD k rw0).no - 1).toNat tv0).wrs (fwK l F0 k) else fwK l F0 k
theorem ended_step {l : List Rw} (h : fstP l 0 (f0 6) = none) {k i : Nat} (hk : k < l.length) (hi : i < (txK l k).1.length) (he : ((txK l k).1.getD i tv0).end_ ≠ -1) : (txK l (k + 1)).1.getD i tv0 = (txK l k).1.getD i tv0 := by
  have hlv := lv_inv h k (by omega)
  have hfit := (row_ok h hk).2
  have hro := txK_ro h hk
  show (stT (txK l k) (l.getD k rw0)).1.getD i tv0 = _
  generalize l.getD k rw0 = r at *
  generalize txK l k = s at *
  unfold stT
  by_cases h1 : r.kind = 1
  · rw [if_pos h1]
    exact getD_app_left hi
  rw [if_neg h1]
  by_cases h2 : r.kind = 2
  · rw [if_pos h2]
    exact getD_app_left hi
  rw [if_neg h2]
  by_cases hof : ofD r.kind = true
  · rw [if_pos hof]
    dsimp only
    obtain ⟨l1, l2⟩ := fit_live hfit hof
    have hk0 : r.kind ≠ 0 := fun e => by rw [e] at hof; cases hof
    have ht := hro.th hk0
    have hno := hro.o hof
    refine getD_set_ne (fun e => he ?_)
    have := hlv.e r.thread.toNat (by omega) l2
    rw [← l1] at this
    rw [e]
    exact this
  · rw [if_neg hof]
theorem ended_stays {l : List Rw} (h : fstP l 0 (f0 6) = none) {k i : Nat} (hi : i < (txK l k).1.length) (he : ((txK l k).1.getD i tv0).end_ ≠ -1) : ∀ d, k + d ≤ l.length → (txK l (k + d)).1.getD i tv0 = (txK l k).1.getD i tv0
  | 0, _ => rfl
  | d + 1, hd => by
    have ih := ended_stays h hi he d (by omega)
    have hm := txK_mono l k d
    have := ended_step h (k := k + d) (i := i) (by omega) (by omega) (by rw [ih]; exact he)
    rw [← ih, ← this]
    rfl
theorem inc_inv {l : List Rw} (h : fstP l 0 (f0 6) = none) : ∀ k, k ≤ l.length → ∀ i, i < (txK l k).1.length → Inc ((txK l k).1.getD i tv0).wrs
  | 0, _, i, hi => absurd hi (Nat.not_lt_zero _)
  | k + 1, hk, i, hi => by
    have ih := inc_inv h k (by omega)
    have hi' : i < (stT (txK l k) (l.getD k rw0)).1.length := hi
    show Inc ((stT (txK l k) (l.getD k rw0)).1.getD i tv0).wrs
    generalize l.getD k rw0 = r at *
    generalize txK l k = s at *
    rw [stT_len] at hi'
    unfold beg1 at hi'
    unfold stT
    have app : ∀ st, i < s.1.length + 1 → Inc ((s.1 ++ [begD r st]).getD i tv0).wrs := fun st hi => by
      by_cases e : i = s.1.length
      · subst e
        rw [getD_app_right]
        exact List.Pairwise.nil
      · rw [getD_app_left (by omega)]
        exact ih i (by omega)
    by_cases h1 : r.kind = 1
    · rw [if_pos (.inl h1)] at hi'
      rw [if_pos h1]
      exact app _ hi'
    rw [if_neg h1]
    by_cases h2 : r.kind = 2
    · rw [if_pos (.inr h2)] at hi'
      rw [if_pos h2]
      exact app _ hi'
    rw [if_neg (show ¬ (r.kind = 1 ∨ r.kind = 2) by omega)] at hi'
    rw [if_neg h2]
    by_cases hof : ofD r.kind = true
    · rw [if_pos hof]
      dsimp only
      by_cases e : i = (r.no - 1).toNat
      · subst e
        rw [getD_set_eq (by omega), addD_wrs]
        split
        · rw [putD_ins (ih _ (by omega))]
          exact (ih _ (by omega)).ins
        · exact ih _ (by omega)
      · rw [getD_set_ne e]
        exact ih i (by omega)
    · rw [if_neg hof]
      exact ih i (by omega)
theorem wrs_pos {l : List Rw} (h : fstP l 0 (f0 6) = none) : ∀ k, k ≤ l.length → ∀ i, i < (txK l k).1.length → ∀ x ∈ ((txK l k).1.getD i tv0).wrs, 0 ≤ x.object
  | 0, _, i, hi => absurd hi (Nat.not_lt_zero _)
  | k + 1, hk, i, hi => by
    have ih := wrs_pos h k (by omega)
    have hfit := (row_ok h (show k < l.length by omega)).2
    have hi' : i < (stT (txK l k) (l.getD k rw0)).1.length := hi
    have htv : ∀ i, i < (txK l k).1.length → Inc ((txK l k).1.getD i tv0).wrs := fun i hi => inc_inv h k (by omega) i hi
    show ∀ x ∈ ((stT (txK l k) (l.getD k rw0)).1.getD i tv0).wrs, 0 ≤ x.object
    generalize l.getD k rw0 = r at *
    generalize txK l k = s at *
    rw [stT_len] at hi'
    unfold beg1 at hi'
    unfold stT
    have app : ∀ st, i < s.1.length + 1 → ∀ x ∈ ((s.1 ++ [begD r st]).getD i tv0).wrs, 0 ≤ x.object := fun st hi => by
      by_cases e : i = s.1.length
      · subst e
        rw [getD_app_right]
        intro x hx
        simp [begD] at hx
      · rw [getD_app_left (by omega)]
        exact ih i (by omega)
    by_cases h1 : r.kind = 1
    · rw [if_pos (.inl h1)] at hi'
      rw [if_pos h1]
      exact app _ hi'
    rw [if_neg h1]
    by_cases h2 : r.kind = 2
    · rw [if_pos (.inr h2)] at hi'
      rw [if_pos h2]
      exact app _ hi'
    rw [if_neg (show ¬ (r.kind = 1 ∨ r.kind = 2) by omega)] at hi'
    rw [if_neg h2]
    by_cases hof : ofD r.kind = true
    · rw [if_pos hof]
      dsimp only
      by_cases e : i = (r.no - 1).toNat
      · subst e
        rw [getD_set_eq (by omega), addD_wrs]
        split
        · rename_i hp
          rw [putD_ins (htv _ (by omega))]
          intro x hx
          rcases mem_ins hx with e | e
          · rw [e]
            exact fit_puts hfit hp
          · exact ih _ (by omega) x e
        · exact ih _ (by omega)
      · rw [getD_set_ne e]
        exact ih i (by omega)
    · rw [if_neg hof]
      exact ih i (by omega)
end Go.Proofs.Ytmnmphkkcabkiaa

namespace Go.Proofs.Ytmnmphkkcabkiaa
open Go.RowKit
def VS (w : World) (a : Option Addr) (n : Nat) (F : Nat → V3) : Prop := ∀ i, i < n → ∃ b off, a = some ⟨b, off, none⟩ ∧ ∀ j v, (F i).cells[j]? = some v → w.cell? ⟨b, off + i * 3 + j, none⟩ = some v
theorem VS.keep {w w' : World} {a : Option Addr} {n : Nat} {F : Nat → V3} (h : VS w a n F) (k : Keeps (fun _ => False) w w') : VS w' a n F := fun i hi => by
  obtain ⟨b, off, e, hc⟩ := h i hi
  exact ⟨b, off, e, fun j v hv => k.cell (hc j v hv) (fun e => e)⟩
theorem gvl_back {F : Nat → V3} {n j : Nat} {u : Value} (h : (gvl F n)[j]? = some u) : j / 3 < n ∧ (F (j / 3)).cells[j % 3]? = some u := by
  have hj : j < n * 3 := by rw [← gvl_len F n]; exact (List.getElem?_eq_some_iff.1 h).1
  have h1 : j / 3 < n := by omega
  have hm : j % 3 < (F (j / 3)).cells.length := by show j % 3 < 3; omega
  have h2 := gvl_get (F := F) h1 (j % 3) _ (List.getElem?_eq_getElem hm)
  rw [show j / 3 * 3 + j % 3 = j by omega, h] at h2
  exact ⟨h1, by rw [List.getElem?_eq_getElem hm, ← h2]⟩
theorem one_v3 (v : V3) : ∀ u ∈ v.cells, u.oneCell' = true := fun u hu => by
  unfold V3.cells at hu
  simp at hu
  rcases hu with rfl | rfl | rfl <;> rfl
theorem one_gvl (F : Nat → V3) (n : Nat) : ∀ u ∈ gvl F n, u.oneCell' = true := fun u hu => by
  unfold gvl at hu
  rw [List.mem_flatMap] at hu
  obtain ⟨i, _, h⟩ := hu
  exact one_v3 _ u h
theorem iVals : ∃ i, Try.prog.info? 27 = some i ∧ i.zero = some (.agg #[.int .i64 0, .int .i64 0, .bool false]) ∧ i.size = 3 ∧ i.bytes = 24 := by
  have h : (Try.prog.info? 27).map (fun i => (i.zero, i.size, i.bytes)) = some (some (.agg #[.int .i64 0, .int .i64 0, .bool false]), 3, 24) := by kernel_rfl
  obtain ⟨i0, hi0, hzz⟩ := Option.map_eq_some_iff.1 h
  simp only [Prod.mk.injEq] at hzz
  exact ⟨i0, hi0, hzz⟩
theorem uVals : Try.prog.underlying 22 = some (.slice 27) := by kernel_rfl
set_option maxRecDepth 100000 in
theorem copy_v {W0 : World} {ao : Option Addr} {n : Nat} {F : Nat → V3} (co : Nat) (hO : VS W0 ao n F) (hz : ao = none → co = 0) (hn : n * 24 ≤ 140737488355328) :
    ∃ v' W', (Builtin.append_ #[22, 22] 22 #[.slice (some ⟨W0.heap.size, 0, none⟩) 0 0, .slice ao n co]).run Try.prog (W0.alloc (.cells #[] 27)) = .ok v' W' ∧ W'.ownsRow W0.heap.size 27 3 v' n (gvl F n) ∧ Keeps (fun _ => False) W0 W' := by
  obtain ⟨i0, hi0, hz0, hz1, hz2⟩ := iVals
  have k0 : Keeps (fun _ => False) W0 (W0.alloc (.cells #[] 27)) := (Keeps.refl _ W0).alloc _
  have o0 : (W0.alloc (.cells #[] 27)).ownsRow W0.heap.size 27 3 (.slice (some ⟨W0.heap.size, 0, none⟩) 0 0) 0 [] := ⟨rfl, .inr ⟨W0.heap.size, 0, #[], rfl, Nat.le_refl _, heap_new W0 _, Nat.le_refl _, by unfold maxLen; omega, rfl, rfl⟩⟩
  cases ao with
  | none =>
    have hl : n = 0 := by
      cases n with
      | zero => rfl
      | succ m => obtain ⟨b, off, e, _⟩ := hO 0 (by omega); cases e
    subst hl
    rw [hz rfl]
    exact ⟨_, _, run_append_owned_none (P := Try.prog) (w := W0.alloc (.cells #[] 27)) W0.heap.size 22 22 27 i0 3 uVals hi0 _ 0 [] o0, o0, k0⟩
  | some a =>
    have hsrc : ∀ j u, (gvl F n)[j]? = some u → (W0.alloc (.cells #[] 27)).cell? (a.add j) = some u := fun j u e => by
      obtain ⟨h1, h2⟩ := gvl_back e
      obtain ⟨b, off, ea, hc⟩ := hO _ h1
      injection ea with ea
      subst ea
      rw [add_at]
      have := hc _ _ h2
      rw [show off + j / 3 * 3 + j % 3 = off + j by omega] at this
      exact k0.cell this (fun e => e)
    obtain ⟨v', w', hr, ho, hgr, _, _⟩ := run_append_own_at (P := Try.prog) (w := W0.alloc (.cells #[] 27)) W0.heap.size 22 22 27 i0 _ 3 24 uVals hi0 hz0 hz1 hz2 rfl (by decide) _ 0 [] o0 a n co (gvl F n) (gvl_len F n) hsrc (one_gvl F n) (by unfold maxLen; omega) (by omega) k0.size
    rw [Nat.zero_add, List.nil_append] at ho
    exact ⟨v', w', hr, ho, k0.trans' ((Keeps.refl _ _).grown hgr (S := fun i => i = W0.heap.size) (fun i _ e => by simp [Value.ownBlock] at e; exact e.symm)) (fun _ _ e => e) (fun i hi e => by omega)⟩
def bls (st : Nat → Bool) (n : Nat) : List Value := (List.range n).map (fun i => .bool (st i))
def BJ (n : Nat) (st : Nat → Bool) (out F0 Fj F : Nat → V3) : Prop := ∀ o, o < n → (st o = true → out o = F o) ∧ (st o = false → out o = F0 o ∧ Fj o = F o)
def BK (ws : List Wo) (m n : Nat) (st : Nat → Bool) (out F0 Fj F : Nat → V3) : Prop := ∀ o, o < n → (st o = true → out o = F o) ∧ (st o = false → out o = F0 o ∧ (wov (ws.drop m) (o : Int)).getD (Fj o) = F o)
theorem BJ.first (n : Nat) (F0 F : Nat → V3) : BJ n (fun _ => false) F0 F0 F F := fun _ _ => ⟨fun e => (by cases e), fun _ => ⟨rfl, rfl⟩⟩
theorem BJ.enter {n : Nat} {st : Nat → Bool} {out F0 Fj F : Nat → V3} {ws : List Wo} (h : BJ n st out F0 (layF ws Fj) F) : BK ws 0 n st out F0 Fj F := fun o ho => ⟨(h o ho).1, fun e => ⟨((h o ho).2 e).1, ((h o ho).2 e).2⟩⟩
theorem drop_cons {ws : List Wo} {m : Nat} {x : Wo} (hx : ws[m]? = some x) : ws.drop m = x :: ws.drop (m + 1) := by
  obtain ⟨h1, h2⟩ := List.getElem?_eq_some_iff.1 hx
  rw [List.drop_eq_getElem_cons h1, h2]
theorem BK.skip {n m : Nat} {st : Nat → Bool} {out F0 Fj F : Nat → V3} {ws : List Wo} {x : Wo} (h : BK ws m n st out F0 Fj F) (hx : ws[m]? = some x) (hs : ∀ o : Nat, o < n → x.object = (o : Int) → st o = true) : BK ws (m + 1) n st out F0 Fj F := fun o ho => ⟨(h o ho).1, fun e => ⟨((h o ho).2 e).1, by
  have := ((h o ho).2 e).2
  rw [drop_cons hx] at this
  unfold wov at this
  rw [if_neg (fun e' => by rw [hs o ho e'] at e; cases e)] at this
  exact this⟩⟩
theorem BK.put {n m i : Nat} {st : Nat → Bool} {out F0 Fj F : Nat → V3} {ws : List Wo} {x : Wo} (h : BK ws m n st out F0 Fj F) (hx : ws[m]? = some x) (hi : i < n) (ho : x.object = (i : Int)) (hs : st i = false) : BK ws (m + 1) n (fun j => if j = i then true else st j) (fun j => if j = i then x.v3 else out j) F0 Fj F := fun o hon => by
  have hw : ∀ o, (wov (ws.drop m) o).getD (Fj o.toNat) = if x.object = o then x.v3 else (wov (ws.drop (m + 1)) o).getD (Fj o.toNat) := fun o => by
    rw [drop_cons hx]
    show (if x.object = o then some x.v3 else wov (ws.drop (m + 1)) o).getD _ = _
    split <;> rfl
  by_cases e : o = i
  · subst e
    dsimp only
    refine ⟨fun _ => ?_, fun e => by rw [if_pos rfl] at e; cases e⟩
    rw [if_pos rfl]
    have h1 := ((h o hon).2 hs).2
    have h2 := hw (o : Int)
    rw [if_pos ho, show ((o : Int)).toNat = o by omega, h1] at h2
    exact h2.symm
  · dsimp only
    rw [if_neg e, if_neg e]
    refine ⟨(h o hon).1, fun e' => ⟨((h o hon).2 e').1, ?_⟩⟩
    have h1 := ((h o hon).2 e').2
    have h2 := hw (o : Int)
    rw [if_neg (by omega), show ((o : Int)).toNat = o by omega, h1] at h2
    exact h2.symm
end Go.Proofs.Ytmnmphkkcabkiaa

namespace Go.Proofs.Ytmnmphkkcabkiaa
open Go.RowKit
structure TT (base N0 : Nat) (W : World) (k n : Nat) (pv : Value) (pb : Nat → Nat) (T : Nat → Tv) (sv : Nat → Value) (wb rb : Nat → Nat) (c : Nat → Int → Nat) (m : Nat) (lv : Value) (wv : Nat → Value) (τ : Nat → Nat) : Prop where
  o : W.ownsRow N0 42 11 lv k (gcl (fun i => (T i).cells (sv i) (wv i)) k)
  s : ∀ i, i < k → W.ownsRow base 44 9 (sv i) (T i).saws.length (scl ((T i).saws.map (telG (c i))))
  w : ∀ i, i < k → W.ownsRow N0 46 4 (wv i) (T i).wrs.length (wcl (T i).wrs)
  a : ∀ i, k ≤ i → i < n → PA base W (pb i) (T i) (sv i) (wb i) (rb i) (c i) m
  p : W.ownsRow base 71 1 pv n (pcl pb n)
  t0 : ∀ b, lv.ownBlock = some b → τ b = 1
  tw : ∀ i, i < k → ∀ b, (wv i).ownBlock = some b → τ b = 3 + 2 * i
  n0 : N0 ≤ W.heap.size
theorem TT.start {base n m : Nat} {X : World} {pv : Value} {pb wb rb : Nat → Nat} {T : Nat → Tv} {sv : Nat → Value} {c : Nat → Int → Nat} {ρ : Nat → Nat} (h : AT base X pv n pb T sv wb rb c ρ m) : TT base X.heap.size X 0 n pv pb T sv wb rb c m (.slice none 0 0) (fun _ => nilv) (fun _ => 0) :=
  ⟨World.ownsRow_nil _ _ _ _, fun i hi => by omega, fun i hi => by omega, fun i _ hi => h.a i hi, h.o, (fun b e => by cases e), fun i hi => by omega, Nat.le_refl _⟩
theorem TT.next {base n m k : Nat} {X W W1 : World} {pv lv wk : Value} {pb wb rb : Nat → Nat} {T : Nat → Tv} {sv wv : Nat → Value} {c : Nat → Int → Nat} {ρ τ : Nat → Nat} (hX : AT base X pv n pb T sv wb rb c ρ m) (h : TT base X.heap.size W k n pv pb T sv wb rb c m lv wv τ) (hk : k < n)
    (hs1 : W1.ownsRow base 44 9 (sv k) (T k).saws.length (scl ((T k).saws.map (telG (c k))))) (hw1 : W1.ownsRow W.heap.size 46 4 wk (T k).wrs.length (wcl (T k).wrs)) (k1 : Keeps (fun b => (sv k).ownBlock = some b) W W1) (hB : (k + 1) * 120 ≤ 140737488355328) :
    ∃ lv' W2, (Builtin.append_ #[35, 35] 35 #[lv, .slice (some ⟨W1.heap.size, 0, none⟩) 1 1]).run Try.prog (W1.alloc (.cells ((T k).cells (sv k) wk).toArray 42)) = .ok lv' W2 ∧
      TT base X.heap.size W2 (k + 1) n pv pb T sv wb rb c m lv' (fun i => if i = k then wk else wv i) (fun b => if b < W.heap.size then τ b else if wk.ownBlock = some b then 3 + 2 * k else 1) ∧ Keeps (fun b => base ≤ b) W W2 := by
  have lsv : ∀ i, i < n → ∀ b, (sv i).ownBlock = some b → b < X.heap.size := fun i hi b e => owns_lt' (hX.a i hi).s b e
  have lpb : ∀ i, i < n → pb i < X.heap.size := fun i hi => (hX.a i hi).cl.lt (by show 0 < 13; decide)
  have lwb : ∀ i, i < n → wb i < X.heap.size := fun i hi => (hX.a i hi).w.lt
  have lrb : ∀ i, i < n → rb i < X.heap.size := fun i hi => by obtain ⟨_, _, h2⟩ := (hX.a i hi).r; exact h2.lt
  have lpv : ∀ b, pv.ownBlock = some b → b < X.heap.size := fun b e => owns_lt' hX.o b e
  have n0 := h.n0
  have z1 := k1.size
  have hS : ∀ b, (sv k).ownBlock = some b → ρ b = 5 + 4 * k := hX.rs k hk
  have o1 := k1.owns h.o (fun b e1 e2 => by have := owns_baseT h.o b e1; have := lsv k hk b e2; omega)
  have s1 : ∀ i, i < k → W1.ownsRow base 44 9 (sv i) (T i).saws.length (scl ((T i).saws.map (telG (c i)))) := fun i hi => k1.owns (h.s i hi) (fun b e1 e2 => by have := hX.rs i (by omega) b e1; have := hS b e2; omega)
  have w1 : ∀ i, i < k → W1.ownsRow X.heap.size 46 4 (wv i) (T i).wrs.length (wcl (T i).wrs) := fun i hi => k1.owns (h.w i hi) (fun b e1 e2 => by have := owns_baseT (h.w i hi) b e1; have := lsv k hk b e2; omega)
  have a1 : ∀ i, k + 1 ≤ i → i < n → PA base W1 (pb i) (T i) (sv i) (wb i) (rb i) (c i) m := fun i hi hn => (h.a i (by omega) hn).keep k1 (fun e => by have := hX.rp i hn; have := hS _ e; omega) (fun e => by have := hX.rw i hn; have := hS _ e; omega) (fun e => by have := hX.rr i hn; have := hS _ e; omega) (fun b e1 e2 => by have := hX.rs i hn b e1; have := hS b e2; omega)
  have p1 := k1.owns h.p (fun b e1 e2 => by have := hX.r0 b e1; have := hS b e2; omega)
  obtain ⟨asl, csl, es, -⟩ := own_slice hs1
  obtain ⟨awl, cwl, ew, -⟩ := own_slice hw1
  obtain ⟨lv', W2, hr, ho, kk, hbl⟩ := append_sz uTx iTxs rfl (by decide) o1 (Nat.le_trans n0 z1) (by decide) hB ((T k).cells (sv k) wk) rfl (fun u hu => by
    rw [es, ew] at hu
    unfold Tv.cells at hu
    simp at hu
    rcases hu with rfl | rfl | rfl | rfl | rfl | rfl | rfl | rfl | rfl | rfl | rfl <;> rfl)
  have lb : ∀ b, lv.ownBlock = some b → X.heap.size ≤ b ∧ b < W.heap.size := fun b e => ⟨owns_baseT h.o b e, owns_lt' h.o b e⟩
  have bX := hX.bb
  refine ⟨lv', W2, hr, ⟨?_, fun i hi => ?_, fun i hi => ?_, fun i hi hn => ?_, ?_, fun b e => ?_, fun i hi b e => ?_, Nat.le_trans (Nat.le_trans n0 z1) kk.size⟩, k1.trans' kk (fun b _ e => ?_) (fun b _ e => ?_)⟩
  · rw [gcl_succ, if_pos rfl, gcl_congr (d := fun i => (T i).cells (sv i) (wv i)) (fun i hi => by rw [if_neg (by omega)])]
    exact ho
  · by_cases e : i = k
    · subst e
      exact kk.owns hs1 (fun b e1 e2 => by have := lsv i hk b e1; have := lb b e2; omega)
    · exact kk.owns (s1 i (by omega)) (fun b e1 e2 => by have := lsv i (by omega) b e1; have := lb b e2; omega)
  · by_cases e : i = k
    · subst e
      rw [if_pos rfl]
      exact kk.owns (owns_low hw1 n0) (fun b e1 e2 => by have := owns_baseT hw1 b e1; have := lb b e2; omega)
    · rw [if_neg e]
      exact kk.owns (w1 i (by omega)) (fun b e1 e2 => by have := h.tw i (by omega) b e1; have := h.t0 b e2; omega)
  · exact (a1 i hi hn).keep kk (fun e => by have := lpb i hn; have := lb _ e; omega) (fun e => by have := lwb i hn; have := lb _ e; omega) (fun e => by have := lrb i hn; have := lb _ e; omega) (fun b e1 e2 => by have := lsv i hn b e1; have := lb b e2; omega)
  · exact kk.owns p1 (fun b e1 e2 => by have := lpv b e1; have := lb b e2; omega)
  · rcases hbl with hb | hb
    · rw [hb] at e
      rw [if_pos (lb b e).2]
      exact h.t0 b e
    · rw [hb] at e
      have e := Option.some.inj e
      rw [if_neg (by omega), if_neg (fun e' => by have := owns_lt' hw1 b e'; omega)]
  · by_cases e' : i = k
    · subst e'
      rw [if_pos rfl] at e
      have := owns_baseT hw1 b e
      rw [if_neg (by omega), if_pos e]
    · rw [if_neg e'] at e
      rw [if_pos (owns_lt' (h.w i (by omega)) b e)]
      exact h.tw i (by omega) b e
  · exact owns_baseT (hX.a k hk).s b e
  · have := lb b e
    show base ≤ b
    omega
theorem TT.done {base n m : Nat} {X W : World} {pv lv : Value} {pb wb rb : Nat → Nat} {T : Nat → Tv} {sv wv : Nat → Value} {c : Nat → Int → Nat} {ρ τ : Nat → Nat} (hX : AT base X pv n pb T sv wb rb c ρ m) (h : TT base X.heap.size W n n pv pb T sv wb rb c m lv wv τ) :
    TL base W lv (telL T c n) sv wv (fun b => if b < X.heap.size then (ρ b - 1) / 2 else τ b) m := by
  have hl := telL_len T c n
  have bX := hX.bb
  refine ⟨?_, fun i hi => ?_, fun i hi => ?_, fun b e => ?_, fun i hi b e => ?_, fun i hi b e => ?_, fun i hi => ?_, Nat.le_trans bX h.n0⟩
  · unfold tcl
    rw [hl, gcl_congr (d := fun i => (T i).cells (sv i) (wv i)) (fun i hi => by rw [telL_get hi]; rfl)]
    exact owns_low h.o bX
  · rw [hl] at hi
    rw [telL_get hi]
    unfold telT
    dsimp only
    rw [List.length_map]
    exact h.s i hi
  · rw [hl] at hi
    rw [telL_get hi]
    exact owns_low (h.w i hi) bX
  · rw [if_neg (by have := owns_baseT h.o b e; omega)]
    exact h.t0 b e
  · rw [hl] at hi
    rw [if_pos (owns_lt' (hX.a i hi).s b e), hX.rs i hi b e]
    omega
  · rw [hl] at hi
    rw [if_neg (by have := owns_baseT (h.w i hi) b e; omega)]
    exact h.tw i hi b e
  · rw [hl] at hi
    rw [telL_get hi]
    unfold telT
    dsimp only
    rw [List.length_map]
    exact (hX.a i hi).ls
end Go.Proofs.Ytmnmphkkcabkiaa

