import Derived.Test.YtclednbclgkdaaaDoorLgU
namespace Go.Proofs.YtclednbclgkdaaaDoor
open Go.RowKit
/-- An instruction whose jump goes on by k. -/
def sh (k : Nat) (q : Ins) : Ins := if q.jmp = true then { q with to := q.to + k } else q
/-- An instruction that does not jump. -/
def pre1 (i : Nat) : Ins := ⟨5, (i : Int).tmod 16, false, 0, false, (i : Int), false, 0, 0, 0, 0⟩
def lng (k : Nat) (l : List Ins) : List Ins := (List.range k).map pre1 ++ l.map (sh k)
/-- All jumps of a program lie within it. -/
def JIn (l : List Ins) : Prop := ∀ p, p < l.length → (l.getD p ins0).jmp = true → 0 ≤ (l.getD p ins0).to ∧ (l.getD p ins0).to ≤ (l.length : Int)
theorem lng_len (k : Nat) (l : List Ins) : (lng k l).length = k + l.length := by simp [lng]
theorem lng_pre {k p : Nat} {l : List Ins} (h : p < k) : (lng k l).getD p ins0 = pre1 p := by
  rw [List.getD_eq_getElem?_getD, lng, List.getElem?_append_left (by simpa using h)]
  simp [h]
theorem lng_at {k p : Nat} {l : List Ins} (h : p < l.length) : (lng k l).getD (k + p) ins0 = sh k (l.getD p ins0) := by
  rw [List.getD_eq_getElem?_getD, lng, List.getElem?_append_right (by simp)]
  simp [List.getD_eq_getElem?_getD, h]
theorem jmp_kdL (q : Ins) : q.jmp = kdL q.code := rfl
theorem sh_can {k : Nat} {q : Ins} {n : Nat} (h : q.jmp = true → 0 ≤ q.to ∧ q.to ≤ (n : Int)) : (sh k q).can ((k + n : Nat) : Int) = q.can (n : Int) := by
  unfold sh
  by_cases hj : q.jmp = true
  · obtain ⟨h0, h1⟩ := h hj
    rw [if_pos hj]
    rw [jmp_kdL] at hj
    unfold Ins.can
    simp only [hj]
    have e1 : btw (q.to + (k : Int)) 0 ((k + n : Nat) : Int) true = true := by
      unfold btw
      simp only [if_true, Bool.and_eq_true, decide_eq_true_eq]
      omega
    have e2 : btw q.to 0 (n : Int) true = true := by
      unfold btw
      simp only [if_true, Bool.and_eq_true, decide_eq_true_eq]
      omega
    rw [e1, e2]
  · rw [if_neg hj]
    rw [jmp_kdL, Bool.not_eq_true] at hj
    unfold Ins.can
    simp only [hj]
    have e1 : btw q.to 0 ((k + n : Nat) : Int) false = btw q.to 0 (n : Int) false := rfl
    rw [e1]
theorem pre_can (i : Nat) (n : Int) : (pre1 i).can n = true := by
  have e1 : btw ((i : Int).tmod 16) 0 15 true = true := by
    have h1 := Int.tmod_lt_of_pos (i : Int) (show (0 : Int) < 16 by decide)
    have h2 := Int.tmod_nonneg 16 (show (0 : Int) ≤ (i : Int) by omega)
    unfold btw
    simp only [if_true, Bool.and_eq_true, decide_eq_true_eq]
    omega
  unfold Ins.can pre1
  simp only [show kdD 5 = true from rfl, show kdR 5 = false from rfl, show kdL 5 = false from rfl, show kdO 5 = false from rfl, show kdX 5 = true from rfl, show kdY 5 = false from rfl, e1]
  simp [btw, fts, opk]
theorem fb_shift {k : Nat} {l : List Ins} (hJ : JIn l) : ∀ m, m ≤ l.length → firstBad (lng k l) ((k + l.length : Nat) : Int) m = (firstBad l (l.length : Int) m).map (k + ·)
  | 0, _ => rfl
  | m + 1, hm => by
    have e : (lng k l).length - (m + 1) = k + (l.length - (m + 1)) := by rw [lng_len]; omega
    show (if ((lng k l).getD ((lng k l).length - (m + 1)) ins0).can ((k + l.length : Nat) : Int) = false then some ((lng k l).length - (m + 1)) else firstBad (lng k l) ((k + l.length : Nat) : Int) m) = (if (l.getD (l.length - (m + 1)) ins0).can (l.length : Int) = false then some (l.length - (m + 1)) else firstBad l (l.length : Int) m).map (k + ·)
    rw [e, lng_at (by omega), sh_can (hJ _ (by omega)), fb_shift hJ m (by omega)]
    split <;> rfl
theorem fb_pre {k : Nat} {l : List Ins} : ∀ m, m ≤ k → firstBad (lng k l) ((k + l.length : Nat) : Int) (l.length + m) = firstBad (lng k l) ((k + l.length : Nat) : Int) l.length
  | 0, _ => rfl
  | m + 1, hm => by
    have e : (lng k l).length - (l.length + m + 1) = k - (m + 1) := by rw [lng_len]; omega
    show (if ((lng k l).getD ((lng k l).length - (l.length + m + 1)) ins0).can ((k + l.length : Nat) : Int) = false then some ((lng k l).length - (l.length + m + 1)) else firstBad (lng k l) ((k + l.length : Nat) : Int) (l.length + m)) = _
    rw [e, lng_pre (by omega), pre_can, if_neg (by decide)]
    exact fb_pre m (by omega)
theorem fb_some {l : List Ins} {n : Int} {i : Nat} : ∀ m, m ≤ l.length → firstBad l n m = some i → i < l.length
  | 0, _, h => by cases h
  | m + 1, hm, h => by
    unfold firstBad at h
    split at h
    · cases h; omega
    · exact fb_some m (by omega) h
theorem chk_shift {k : Nat} {l : List Ins} (hJ : JIn l) : chk (lng k l) = if 64 < k + l.length then (106, 0) else (fbE (firstBad l l.length l.length), fbI ((firstBad l l.length l.length).map (k + ·))) := by
  unfold chk
  rw [lng_len]
  have e : firstBad (lng k l) ((k + l.length : Nat) : Int) (k + l.length) = (firstBad l l.length l.length).map (k + ·) := by
    rw [Nat.add_comm k l.length, Nat.add_comm l.length k, show firstBad (lng k l) ((k + l.length : Nat) : Int) (k + l.length) = firstBad (lng k l) ((k + l.length : Nat) : Int) (l.length + k) by rw [Nat.add_comm k l.length], fb_pre k (Nat.le_refl _), fb_shift hJ _ (Nat.le_refl _)]
  rw [e]
  cases firstBad l l.length l.length <;> rfl
theorem fwd_shift {k : Nat} {l : List Ins} : ∀ m, m ≤ l.length → fwd (lng k l) m = fwd l m
  | 0, _ => rfl
  | m + 1, hm => by
    have e : (lng k l).length - (m + 1) = k + (l.length - (m + 1)) := by rw [lng_len]; omega
    show (if (((lng k l).getD ((lng k l).length - (m + 1)) ins0).jmp && decide (((lng k l).getD ((lng k l).length - (m + 1)) ins0).to ≤ (((lng k l).length - (m + 1) : Nat) : Int))) = true then false else fwd (lng k l) m) = (if ((l.getD (l.length - (m + 1)) ins0).jmp && decide ((l.getD (l.length - (m + 1)) ins0).to ≤ ((l.length - (m + 1) : Nat) : Int))) = true then false else fwd l m)
    rw [e, lng_at (by omega), fwd_shift m (by omega)]
    generalize l.getD (l.length - (m + 1)) ins0 = q
    generalize l.length - (m + 1) = p
    have e2 : ((sh k q).jmp && decide ((sh k q).to ≤ ((k + p : Nat) : Int))) = (q.jmp && decide (q.to ≤ (p : Int))) := by
      unfold sh
      by_cases hj : q.jmp = true
      · rw [if_pos hj]
        have e3 : ({ q with to := q.to + (k : Int) } : Ins).jmp = q.jmp := rfl
        rw [e3]
        congr 1
        have : (q.to + (k : Int) ≤ ((k + p : Nat) : Int)) ↔ (q.to ≤ (p : Int)) := by omega
        exact decide_eq_decide.2 this
      · rw [if_neg hj]
        rw [Bool.not_eq_true] at hj
        rw [hj]; rfl
    rw [e2]
theorem fwd_pre {k : Nat} {l : List Ins} : ∀ m, m ≤ k → fwd (lng k l) (l.length + m) = fwd (lng k l) l.length
  | 0, _ => rfl
  | m + 1, hm => by
    have e : (lng k l).length - (l.length + m + 1) = k - (m + 1) := by rw [lng_len]; omega
    show (if (((lng k l).getD ((lng k l).length - (l.length + m + 1)) ins0).jmp && decide (((lng k l).getD ((lng k l).length - (l.length + m + 1)) ins0).to ≤ (((lng k l).length - (l.length + m + 1) : Nat) : Int))) = true then false else fwd (lng k l) (l.length + m)) = _
    rw [e, lng_pre (by omega)]
    have : (pre1 (k - (m + 1))).jmp = false := rfl
    rw [this, Bool.false_and, if_neg (by decide)]
    exact fwd_pre m (by omega)
theorem fwd_all {k : Nat} {l : List Ins} : fwd (lng k l) (lng k l).length = fwd l l.length := by
  rw [lng_len, Nat.add_comm, fwd_pre k (Nat.le_refl _), fwd_shift _ (Nat.le_refl _)]
theorem nx_pre {k p : Nat} {l : List Ins} (h : p < k) : nx (lng k l) p = [p + 1] := by
  unfold nx
  rw [lng_pre h]
  show ([(p : Int) + 1].map Int.toNat) = [p + 1]
  simp
theorem nx_at {k p : Nat} {l : List Ins} (hJ : JIn l) (h : p < l.length) : nx (lng k l) (k + p) = (nx l p).map (k + ·) := by
  unfold nx
  rw [lng_at h]
  have hj := hJ p h
  generalize l.getD p ins0 = q at *
  unfold sh
  have jm : ∀ q : Ins, q.jmp = (q.code == 7 || q.code == 8) := fun _ => rfl
  by_cases c8 : q.code = 8
  · have hj1 : q.jmp = true := by rw [jm, c8]; rfl
    obtain ⟨h0, _⟩ := hj hj1
    rw [if_pos hj1]
    unfold Ins.nxt
    simp only [c8, if_true, List.map_cons, List.map_nil]
    congr 1
    omega
  · by_cases c7 : q.code = 7
    · have hj1 : q.jmp = true := by rw [jm, c7]; rfl
      obtain ⟨h0, _⟩ := hj hj1
      rw [if_pos hj1]
      unfold Ins.nxt
      simp only [c7, if_true]
      rw [if_neg (by decide), if_neg (by decide)]
      simp only [List.map_cons, List.map_nil]
      congr 1
      · omega
    · have hj1 : ¬ q.jmp = true := by rw [jm]; simp [c7, c8]
      rw [if_neg hj1]
      unfold Ins.nxt
      rw [if_neg c8, if_neg c7, if_neg c8, if_neg c7]
      split
      · rfl
      · simp only [List.map_cons, List.map_nil]
        congr 1
theorem ht_shift {k : Nat} {l : List Ins} (hJ : JIn l) {p h : Nat} (H : Ht l.length (nx l) p h) : Ht (lng k l).length (nx (lng k l)) (k + p) h := by
  induction H with
  | fin => rw [lng_len]; exact .fin
  | step p m g hp hs hl hm ih =>
    refine Ht.mk (by rw [lng_len]; omega) (fun q hq => ?_) ?_
    · rw [nx_at hJ hp] at hq
      obtain ⟨r, hr, rfl⟩ := List.mem_map.1 hq
      exact ⟨g r, ih r hr, hl r hr⟩
    · rcases hm with h0 | ⟨q, hq, hg⟩
      · exact .inl h0
      · refine .inr ⟨k + q, ?_, ?_⟩
        · rw [nx_at hJ hp]; exact List.mem_map.2 ⟨q, hq, rfl⟩
        · rw [← hg]; exact ih q hq
theorem ht_pre {k : Nat} {l : List Ins} {h : Nat} (H : Ht (lng k l).length (nx (lng k l)) k h) : ∀ m, m ≤ k → Ht (lng k l).length (nx (lng k l)) (k - m) (h + m)
  | 0, _ => H
  | m + 1, hm => by
    have i := ht_pre H m (by omega)
    have e : k - m = k - (m + 1) + 1 := by omega
    rw [e] at i
    refine Ht.mk (m := h + m) (by rw [lng_len]; omega) (fun q hq => ?_) (.inr ⟨k - (m + 1) + 1, ?_, i⟩)
    · rw [nx_pre (by omega)] at hq
      have : q = k - (m + 1) + 1 := by simpa using hq
      rw [this]
      exact ⟨h + m, i, Nat.le_refl _⟩
    · rw [nx_pre (by omega)]; simp
theorem ht_all {k : Nat} {l : List Ins} (hJ : JIn l) {h : Nat} (H : Ht l.length (nx l) 0 h) : Ht (lng k l).length (nx (lng k l)) 0 (h + k) := by
  have := ht_pre (ht_shift (k := k) hJ H) k (Nat.le_refl _)
  rwa [Nat.sub_self] at this
theorem wk_shift {k : Nat} {l : List Ins} (hJ : JIn l) : ∀ (m p q : Nat), Wk l.length (nx l) m p q → Wk (lng k l).length (nx (lng k l)) m (k + p) (k + q)
  | 0, p, q, h => by have h : p = q := h; subst h; exact rfl
  | m + 1, p, q, ⟨hp, r, hr, h⟩ => ⟨by rw [lng_len]; omega, k + r, by rw [nx_at hJ hp]; exact List.mem_map.2 ⟨r, hr, rfl⟩, wk_shift hJ m r q h⟩
theorem wk_pre {k : Nat} {l : List Ins} {i q : Nat} (h : Wk (lng k l).length (nx (lng k l)) i k q) : ∀ m, m ≤ k → Wk (lng k l).length (nx (lng k l)) (i + m) (k - m) q
  | 0, _ => h
  | m + 1, hm => by
    have e : k - m = k - (m + 1) + 1 := by omega
    have i2 := wk_pre h m (by omega)
    rw [e] at i2
    exact ⟨by rw [lng_len]; omega, k - (m + 1) + 1, by rw [nx_pre (by omega)]; simp, i2⟩
theorem circ_all {k : Nat} {l : List Ins} (hJ : JIn l) (h : Circ l.length (nx l)) : Circ (lng k l).length (nx (lng k l)) := by
  obtain ⟨i, p, m, hp, h1, h2⟩ := h
  have a1 := wk_pre (wk_shift (k := k) hJ i 0 p h1) k (Nat.le_refl _)
  rw [Nat.sub_self] at a1
  exact ⟨i + k, k + p, m, by rw [lng_len]; omega, a1, wk_shift hJ _ _ _ h2⟩
/-- What the law asks of both. -/
theorem lgp_shift {k : Nat} {l : List Ins} (hJ : JIn l) (hc : (chk l).1 = 0) (hc' : (chk (lng k l)).1 = 0) {x y x' y' : Int} (h : LgP l x y) (h' : LgP (lng k l) x' y') : y' = y ∧ ((y = 109 ∧ x = 0 ∧ x' = 0) ∨ (y = 0 ∧ x' = x + k ∧ 0 ≤ x ∧ x ≤ (l.length : Int))) := by
  rcases h with ⟨e, _⟩ | ⟨_, h⟩
  · exact absurd hc e
  rcases h' with ⟨e, _⟩ | ⟨_, h'⟩
  · exact absurd hc' e
  rcases h with ⟨a, Ha, rfl, rfl⟩ | ⟨C, rfl, rfl⟩
  · rcases h' with ⟨b, Hb, rfl, rfl⟩ | ⟨C', rfl, rfl⟩
    · have := Hb.uniq (ht_all hJ Ha)
      have := Ha.le
      exact ⟨rfl, .inr ⟨rfl, by omega, by omega, by omega⟩⟩
    · exact (C'.no (ht_all hJ Ha)).elim
  · rcases h' with ⟨b, Hb, rfl, rfl⟩ | ⟨C', rfl, rfl⟩
    · exact ((circ_all hJ C).no Hb).elim
    · exact ⟨rfl, .inl ⟨rfl, rfl, rfl⟩⟩
theorem fwB_shift {k : Nat} {l : List Ins} (hc : (chk l).1 = 0) (hc' : (chk (lng k l)).1 = 0) : fwB (lng k l) = fwB l := by
  unfold fwB
  rw [if_pos hc, if_pos hc', fwd_all]
end Go.Proofs.YtclednbclgkdaaaDoor
