import Derived.Test.YtehblpbefkopbaaDoorXaS
import Derived.Test.YtehblpbefkopbaaDoorXgA
namespace Go.Proofs.YtehblpbefkopbaaDoor
/-! A tree's sizes as the program counts them: its depth wraps (a depth of 2^63 stands for the least number), without memory. -/
def zd (x : Nat) : Nat := if x < 9223372036854775808 then x else 0
def nrm (a : Nat × Nat) : Nat × Nat := (zd a.1, a.2)
def wtM (a b : Nat × Nat) : Nat × Nat := (max (zd a.1) (zd b.1), a.2 + b.2)
def dI (d : Nat) : Int := if d < 9223372036854775808 then (d : Int) else -9223372036854775808
theorem zd_lt (x : Nat) : zd x < 9223372036854775808 := by unfold zd; split <;> omega
theorem zd_id {x : Nat} (h : x < 9223372036854775808) : zd x = x := if_pos h
theorem dI_id {x : Nat} (h : x < 9223372036854775808) : dI x = (x : Int) := if_pos h
theorem wtM_lt (a b : Nat × Nat) : (wtM a b).1 < 9223372036854775808 := by
  have := zd_lt a.1
  have := zd_lt b.1
  unfold wtM; simp only; omega
theorem wtM_zero (a : Nat × Nat) : wtM (0, 0) a = nrm a := by
  unfold wtM nrm; simp only [Nat.zero_add]; rw [zd_id (show (0 : Nat) < 9223372036854775808 by decide), Nat.zero_max]
theorem wtM_zero' (a : Nat × Nat) : wtM a (0, 0) = nrm a := by
  unfold wtM nrm; simp only [Nat.add_zero]; rw [zd_id (show (0 : Nat) < 9223372036854775808 by decide), Nat.max_zero]
theorem zd_zd (x : Nat) : zd (zd x) = zd x := zd_id (zd_lt x)
theorem wtM_nrm (a b : Nat × Nat) : wtM (nrm a) b = wtM a b := by unfold wtM nrm; simp only [zd_zd]
theorem wtM_nrm' (a b : Nat × Nat) : wtM a (nrm b) = wtM a b := by unfold wtM nrm; simp only [zd_zd]
theorem nrm_zero : nrm (0, 0) = (0, 0) := by unfold nrm; rw [zd_id (by decide)]
theorem nrm_id {a : Nat × Nat} (h : a.1 < 9223372036854775808) : nrm a = a := by unfold nrm; rw [zd_id h]
theorem wtM_assoc (a b c : Nat × Nat) : wtM (wtM a b) c = wtM a (wtM b c) := by
  have h1 : zd (max (zd a.1) (zd b.1)) = max (zd a.1) (zd b.1) := zd_id (by have := zd_lt a.1; have := zd_lt b.1; omega)
  have h2 : zd (max (zd b.1) (zd c.1)) = max (zd b.1) (zd c.1) := zd_id (by have := zd_lt b.1; have := zd_lt c.1; omega)
  unfold wtM
  simp only [h1, h2, Nat.max_assoc, Nat.add_assoc]
mutual
def mzE : Tr → Nat × Nat
  | .mk k n w ps => if okE k n w ps.length then undr (mzL ps) else (0, 0)
def mzL : List Tr → Nat × Nat
  | [] => (0, 0)
  | t :: r => wtM (mzE t) (mzL r)
end
mutual
def mzS : St → Nat × Nat
  | .mk k wd a b th el => if okS k wd a b th.length el.length then undr (wtM (wtM (wtM (if usA k then mzE a else (0, 0)) (if usB k then mzE b else (0, 0))) (mzSL th)) (mzSL el)) else (0, 0)
def mzSL : List St → Nat × Nat
  | [] => (0, 0)
  | t :: r => wtM (mzS t) (mzSL r)
end
theorem mzL_lt : ∀ l : List Tr, (mzL l).1 < 9223372036854775808
  | [] => by unfold mzL; decide
  | t :: r => by unfold mzL; exact wtM_lt _ _
theorem mzSL_lt : ∀ l : List St, (mzSL l).1 < 9223372036854775808
  | [] => by unfold mzSL; decide
  | t :: r => by unfold mzSL; exact wtM_lt _ _
theorem undr_le {a : Nat × Nat} (h : a.1 < 9223372036854775808) : (undr a).1 ≤ 9223372036854775808 ∧ (undr a).2 ≤ 513 := by
  unfold undr; simp only; omega
theorem mzE_le (t : Tr) : (mzE t).1 ≤ 9223372036854775808 ∧ (mzE t).2 ≤ 513 := by
  cases t
  unfold mzE
  split
  · exact undr_le (mzL_lt _)
  · simp only; omega
theorem mzS_le (t : St) : (mzS t).1 ≤ 9223372036854775808 ∧ (mzS t).2 ≤ 513 := by
  cases t
  unfold mzS
  split
  · exact undr_le (wtM_lt _ _)
  · simp only; omega
theorem mzL_le : ∀ l : List Tr, (mzL l).1 < 9223372036854775808 ∧ (mzL l).2 ≤ 513 * l.length
  | [] => by unfold mzL; simp
  | t :: r => by
    have h1 := mzL_le r
    have h2 := mzE_le t
    refine ⟨mzL_lt _, ?_⟩
    unfold mzL wtM
    simp only [List.length_cons]
    omega
theorem mzSL_le : ∀ l : List St, (mzSL l).1 < 9223372036854775808 ∧ (mzSL l).2 ≤ 513 * l.length
  | [] => by unfold mzSL; simp
  | t :: r => by
    have h1 := mzSL_le r
    have h2 := mzS_le t
    refine ⟨mzSL_lt _, ?_⟩
    unfold mzSL wtM
    simp only [List.length_cons]
    omega
theorem wtM_wth {a b : Nat × Nat} (ha : a.1 < 9223372036854775808) (hb : b.1 < 9223372036854775808) : wtM a b = wth a b := by
  unfold wtM wth; rw [zd_id ha, zd_id hb]
mutual
theorem mzE_eq : ∀ t : Tr, bgE t < 9223372036854775808 → mzE t = szE t
  | .mk k n w ps, h => by
    unfold bgE at h
    rw [mzE, szE, mzL_eq ps (by omega)]
theorem mzL_eq : ∀ l : List Tr, bgL l < 9223372036854775808 → mzL l = szL l
  | [], _ => by rw [mzL, szL]
  | t :: r, h => by
    unfold bgL at h
    have h1 := szE_le t
    have h2 := szL_le r
    rw [mzL, szL, mzE_eq t (by omega), mzL_eq r (by omega), wtM_wth (by omega) (by omega)]
end
mutual
theorem mzS_eq : ∀ t : St, bgS t < 9223372036854775808 → mzS t = szS t
  | .mk k wd a b th el, h => by
    unfold bgS at h
    have h1 := szE_le a
    have h2 := szE_le b
    have h3 := szSL_le th
    have h4 := szSL_le el
    have z : (((0, 0) : Nat × Nat).1 < 9223372036854775808) := by decide
    rw [mzS, szS, mzE_eq a (by omega), mzE_eq b (by omega), mzSL_eq th (by omega), mzSL_eq el (by omega)]
    have e1 : wtM (if usA k then szE a else (0, 0)) (if usB k then szE b else (0, 0)) = wth (if usA k then szE a else (0, 0)) (if usB k then szE b else (0, 0)) := by
      refine wtM_wth ?_ ?_ <;> split <;> first | omega | decide
    have e2 : (wth (if usA k then szE a else (0, 0)) (if usB k then szE b else (0, 0))).1 ≤ bgE a + bgE b := by
      unfold wth; split <;> split <;> simp only <;> omega
    rw [e1]
    generalize wth (if usA k then szE a else (0, 0)) (if usB k then szE b else (0, 0)) = A at *
    rw [wtM_wth (a := A) (by omega) (by omega)]
    rw [wtM_wth (a := wth A (szSL th)) (by unfold wth; simp only; omega) (by omega)]
theorem mzSL_eq : ∀ l : List St, bgSL l < 9223372036854775808 → mzSL l = szSL l
  | [], _ => by rw [mzSL, szSL]
  | t :: r, h => by
    unfold bgSL at h
    have h1 := szS_le t
    have h2 := szSL_le r
    rw [mzSL, szSL, mzS_eq t (by omega), mzSL_eq r (by omega), wtM_wth (by omega) (by omega)]
end
mutual
theorem mzE_snd : ∀ t : Tr, (mzE t).2 = (szE t).2
  | .mk k n w ps => by
    have := mzL_snd ps
    rw [mzE, szE]
    split
    · unfold undr; simp only; omega
    · rfl
theorem mzL_snd : ∀ l : List Tr, (mzL l).2 = (szL l).2
  | [] => by rw [mzL, szL]
  | t :: r => by
    have h1 := mzE_snd t
    have h2 := mzL_snd r
    rw [mzL, szL]
    unfold wtM wth
    simp only
    omega
end
mutual
theorem mzS_snd : ∀ t : St, (mzS t).2 = (szS t).2
  | .mk k wd a b th el => by
    have h1 := mzE_snd a
    have h2 := mzE_snd b
    have h3 := mzSL_snd th
    have h4 := mzSL_snd el
    rw [mzS, szS]
    split
    · unfold undr wtM wth
      split <;> split <;> simp only <;> omega
    · rfl
theorem mzSL_snd : ∀ l : List St, (mzSL l).2 = (szSL l).2
  | [] => by rw [mzSL, szSL]
  | t :: r => by
    have h1 := mzS_snd t
    have h2 := mzSL_snd r
    rw [mzSL, szSL]
    unfold wtM wth
    simp only
    omega
end
/-- What Check answers, of any tree. -/
def chkM (l : List St) : Int := if wrSL l then 235 else if 8 < (nmSL l []).length then 232 else if 24 < (mzSL l).1 then 233 else if 512 < (mzSL l).2 then 234 else 0
theorem chkM_eq {l : List St} (h : bgSL l < 9223372036854775808) : chkM l = chk l := by unfold chkM chk; rw [mzSL_eq l h]
end Go.Proofs.YtehblpbefkopbaaDoor
