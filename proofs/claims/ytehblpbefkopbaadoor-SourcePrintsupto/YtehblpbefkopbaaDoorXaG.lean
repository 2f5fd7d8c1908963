import Derived.Test.YtehblpbefkopbaaDoorXaF
namespace Go.Proofs.YtehblpbefkopbaaDoor
open Go.RowKit Go.ChangeShapes Go.WideShapes Go.ChangeAt
attribute [local go_sem] Oper.semAt_some run_store_nf run_store_f
def blnk : Bs := [32, 9, 10]
theorem spk_trim : ∀ l : Bs, spk false (l.dropWhile (blnk.contains ·)) = spk false l
  | [] => rfl
  | b :: r => by
    rw [List.dropWhile_cons]
    split
    · rename_i h
      have h : b = 32 ∨ b = 9 ∨ b = 10 := by simpa [blnk] using h
      rw [spk_trim r]
      rw [show spk false (b :: r) = if b = 32 ∨ b = 9 ∨ b = 10 then spk false r else if b = 35 then spk true r else b :: r from rfl, if_pos h]
    · rfl
def aft (l : Bs) : Bs := (Lib.cut l [10]).2.1
theorem aft_eq (l : Bs) : aft l = if 0 ≤ Lib.index l [10] then l.drop ((Lib.index l [10]).toNat + 1) else [] := by
  unfold aft Lib.cut
  split <;> rfl
theorem spk_aft : ∀ l : Bs, spk true l = spk false (aft l)
  | [] => rfl
  | b :: r => by
    have ih := spk_aft r
    rw [aft_eq] at ih ⊢
    have hg := Lib.index_ge r [10]
    show (if b = 10 then spk false r else spk true r) = _
    rw [show Lib.index (b :: r) [10] = if List.isPrefixOf [10] (b :: r) then 0 else if Lib.index r [10] == -1 then -1 else Lib.index r [10] + 1 from rfl]
    by_cases h : b = 10
    · subst h
      rw [if_pos rfl, if_pos (show List.isPrefixOf [10] ((10 : UInt8) :: r) = true by simp [List.isPrefixOf])]
      rfl
    · have hpre : List.isPrefixOf [10] (b :: r) = false := by
        simp [List.isPrefixOf]
        exact fun e => h e.symm
      rw [if_neg h, ih, hpre]
      by_cases h2 : Lib.index r [10] = -1
      · rw [h2]; rfl
      · have h4 : (Lib.index r [10] == -1) = false := by simpa using h2
        rw [h4]
        simp only [Bool.false_eq_true, if_false]
        rw [if_pos (by omega), if_pos (by omega)]
        rw [show (Lib.index r [10] + 1).toNat + 1 = ((Lib.index r [10]).toNat + 1) + 1 by omega, List.drop_succ_cons]
theorem aft_len (l : Bs) (h : l ≠ []) : (aft l).length < l.length := by
  have h0 : 0 < l.length := List.length_pos_iff.2 h
  rw [aft_eq]
  split
  · rw [List.length_drop]; omega
  · exact h0
theorem spk_stop (x : Bs) (h1 : ∀ b r, x = b :: r → blnk.contains b = false) (h2 : List.isPrefixOf [35] x = false) : spk false x = x := by
  cases x with
  | nil => rfl
  | cons b r =>
    have := h1 b r rfl
    have h : ¬ (b = 32 ∨ b = 9 ∨ b = 10) := by simpa [blnk] using this
    have h3 : ¬ b = 35 := by intro e; subst e; simp [List.isPrefixOf] at h2
    rw [show spk false (b :: r) = if b = 32 ∨ b = 9 ∨ b = 10 then spk false r else if b = 35 then spk true r else b :: r from rfl, if_neg h, if_neg h3]
theorem spk_hash (x : Bs) (h2 : List.isPrefixOf [35] x = true) : spk false x = spk false (aft x) ∧ x ≠ [] := by
  cases x with
  | nil => cases h2
  | cons b r =>
    have h3 : b = 35 := by simp [List.isPrefixOf] at h2; exact h2.symm
    subst h3
    refine ⟨?_, by simp⟩
    rw [← spk_aft]; rfl
theorem trim_head : ∀ (l : Bs) (b : UInt8) (r : Bs), l.dropWhile (blnk.contains ·) = b :: r → blnk.contains b = false
  | [], b, r, h => by cases h
  | c :: l, b, r, h => by
    rw [List.dropWhile_cons] at h
    split at h
    · exact trim_head l b r h
    · rename_i hn
      injection h with h _
      rw [← h]
      simpa using hn
theorem trim_len (l : Bs) : (l.dropWhile (blnk.contains ·)).length ≤ l.length := (List.dropWhile_suffix _).length_le
def slen : Value → Nat | .string s => s.size | _ => 0
/-- A fault at the place from which R is left. -/
def fltV (T R : Bs) : Value := .agg #[.int .i64 231, .int .i64 (lnO (T.take (T.length - R.length)) : Int), .int .i64 (colO (T.take (T.length - R.length)) : Int)]
/-- A reader in memory. -/
structure RdM (w : World) (r : Nat) (T R : Bs) : Prop where
  c : CL w r [.string (bs T), .string (bs R), .string (bs (tok R))]
  suf : R <:+ T
  len : T.length ≤ 32768
  g : SG w
  low : 6 ≤ r
theorem RdM.keep {S : Nat → Prop} {w w' : World} {r : Nat} {T R : Bs} (h : RdM w r T R) (k : Keeps S w w') (hS : ∀ i, i < 6 → ¬ S i) (hr : ¬ S r) : RdM w' r T R :=
  ⟨h.c.keep (by show 0 < 3; decide) k hr, h.suf, h.len, h.g.keep k hS, h.low⟩
theorem RdM.rl {w : World} {r : Nat} {T R : Bs} (h : RdM w r T R) : R.length ≤ 32768 := Nat.le_trans h.suf.length_le h.len
theorem last_col (A : Bs) : ((bs A).size : Int) - Lib.lastIndexByte (bs A) 10 = (colO A : Int) := by
  have hd : ∀ j, (bs A).data[j]! = A.getD j 0 := fun j => by
    show A.toArray[j]! = _
    simp [List.getD_eq_getElem?_getD]
    rfl
  rcases Lib.lastIndexByte_spec (bs A) 10 with ⟨e, hn⟩ | ⟨i, hi, e, hc, hn⟩
  · have hno : (10 : UInt8) ∉ A := by
      intro hm
      obtain ⟨j, hj, ej⟩ := List.getElem_of_mem hm
      refine hn j hj ?_
      rw [hd, List.getD_eq_getElem?_getD, List.getElem?_eq_getElem hj, ej]; rfl
    rw [e, colO_no A hno, bs_size]; omega
  · rw [bs_size] at hi
    have hAi : A[i] = 10 := by
      rw [hd, List.getD_eq_getElem?_getD, List.getElem?_eq_getElem hi] at hc
      have hc : (A[i].toNat : Int) = 10 := hc
      exact UInt8.toNat_inj.1 (by show A[i].toNat = 10; omega)
    have hsp : A = A.take i ++ 10 :: A.drop (i + 1) := by
      have := List.take_append_drop i A
      rw [List.drop_eq_getElem_cons hi, hAi] at this
      exact this.symm
    have hno : (10 : UInt8) ∉ A.drop (i + 1) := by
      intro hm
      obtain ⟨j, hj, ej⟩ := List.getElem_of_mem hm
      rw [List.length_drop] at hj
      rw [List.getElem_drop] at ej
      refine hn (i + 1 + j) (by omega) (by rw [bs_size]; omega) ?_
      rw [hd, List.getD_eq_getElem?_getD, List.getElem?_eq_getElem (by omega), ej]; rfl
    have := colO_app_nl (A.take i) (A.drop (i + 1)) hno
    rw [← hsp] at this
    rw [e, this, bs_size, List.length_drop]; omega
end Go.Proofs.YtehblpbefkopbaaDoor
