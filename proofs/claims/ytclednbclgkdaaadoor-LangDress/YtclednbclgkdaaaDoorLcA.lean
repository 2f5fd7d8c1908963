import Derived.Test.YtclednbclgkdaaaDoorPjK
namespace Go.Proofs.YtclednbclgkdaaaDoor
open Go.RowKit
/-- A text's lines, sign by sign. -/
def sp : List UInt8 → List (List UInt8)
  | [] => [[]]
  | c :: r => if c = 10 then [] :: sp r else match sp r with
    | h :: t => (c :: h) :: t
    | [] => [[c]]
def hd (c : UInt8) : List (List UInt8) → List (List UInt8)
  | h :: t => (c :: h) :: t
  | [] => [[c]]
theorem sp_ne {c : UInt8} {r : List UInt8} (h : c ≠ 10) : sp (c :: r) = hd c (sp r) := by
  show (if c = 10 then [] :: sp r else match sp r with | h :: t => (c :: h) :: t | [] => [[c]]) = _
  rw [if_neg h]
  cases sp r <;> rfl
theorem sp_nl (r : List UInt8) : sp (10 :: r) = [] :: sp r := by
  show (if (10 : UInt8) = 10 then [] :: sp r else _) = _
  rw [if_pos rfl]
theorem sp_cons (l : List UInt8) : ∃ h t, sp l = h :: t := by
  cases l with
  | nil => exact ⟨_, _, rfl⟩
  | cons c r =>
    by_cases h : c = 10
    · subst h; exact ⟨_, _, sp_nl r⟩
    · rw [sp_ne h]
      cases sp r with
      | nil => exact ⟨_, _, rfl⟩
      | cons a b => exact ⟨_, _, rfl⟩
theorem split_sp : ∀ (l : List UInt8) (k : Nat), l.count 10 = k → Lib.splitK [10] 0 k l = sp l
  | [], k, hk => by subst hk; rfl
  | c :: r, k, hk => by
    by_cases h : c = 10
    · subst h
      rw [List.count_cons_self] at hk
      subst hk
      have hix : Lib.index (10 :: r) [10] = 0 := by rw [Lib.index]; simp [List.isPrefixOf]
      unfold Lib.splitK
      rw [hix]
      rw [if_neg (by decide), sp_nl]
      have := split_sp r (r.count 10) rfl
      simp only [Int.toNat_zero, List.length_singleton, Nat.zero_add, List.take_zero, List.drop_succ_cons, List.drop_zero]
      rw [this]
    · rw [List.count_cons_of_ne (by simpa using h)] at hk
      have i := split_sp r k hk
      rw [sp_ne h, ← i]
      cases k with
      | zero => rfl
      | succ k =>
        have hp : ([10] : List UInt8).isPrefixOf (c :: r) = false := by simp [List.isPrefixOf, Ne.symm h]
        have hix : Lib.index (c :: r) [10] = if Lib.index r [10] == -1 then -1 else Lib.index r [10] + 1 := by rw [Lib.index, hp]; simp
        unfold Lib.splitK
        rw [hix]
        by_cases hm : Lib.index r [10] = -1
        · rw [hm]
          rfl
        · have hge := Lib.index_ge r [10]
          obtain ⟨j, hj⟩ : ∃ j : Nat, Lib.index r [10] = j := ⟨(Lib.index r [10]).toNat, by omega⟩
          rw [hj]
          have b1 : ((j : Int) == -1) = false := beq_eq_false_iff_ne.2 (by omega)
          have b2 : ((j : Int) + 1 == -1) = false := beq_eq_false_iff_ne.2 (by omega)
          rw [b1]
          simp only [Bool.false_eq_true, if_false]
          rw [b2]
          simp only [Bool.false_eq_true, if_false]
          have e1 : ((j : Int) + 1).toNat = j + 1 := by omega
          rw [e1, Int.toNat_natCast]
          rfl
theorem lns_sp (s : ByteArray) : (lns s).map (·.data.toList) = sp s.data.toList := by
  unfold lns
  rw [Lib.splitB_data]
  have hc : Lib.countB s ⟨#[10]⟩ = s.data.toList.count 10 := by
    rw [← Lib.count_one]
  rw [hc]
  exact split_sp _ _ rfl
theorem ba_ext {a b : ByteArray} (h : a.data.toList = b.data.toList) : a = b := by
  cases a; cases b
  simp only [ByteArray.mk.injEq]
  exact Array.ext' h
theorem map_inj {l m : List ByteArray} (h : l.map (·.data.toList) = m.map (·.data.toList)) : l = m := by
  induction l generalizing m with
  | nil => cases m with
    | nil => rfl
    | cons a b => cases h
  | cons a b ih => cases m with
    | nil => cases h
    | cons c d =>
      injection h with h1 h2
      rw [ba_ext h1, ih h2]
/-- Where the k-th line ends. -/
def nlp : Nat → List UInt8 → Nat
  | _, [] => 0
  | k, c :: r => if c = 10 then (if k ≤ 1 then 0 else 1 + nlp (k - 1) r) else 1 + nlp k r
theorem hd_take (c : UInt8) (l : List (List UInt8)) (k : Nat) : hd c (l.take (k + 1)) = (hd c l).take (k + 1) := by
  cases l with
  | nil => simp [hd]
  | cons a b => rfl
theorem sp_nlp : ∀ (l : List UInt8) (k : Nat), sp (l.take (nlp (k + 1) l)) = (sp l).take (k + 1)
  | [], k => by simp [sp]
  | c :: r, k => by
    unfold nlp
    by_cases h : c = 10
    · subst h
      rw [if_pos rfl]
      cases k with
      | zero => rw [if_pos (Nat.le_refl _), sp_nl]; rfl
      | succ k =>
        rw [if_neg (by omega), Nat.add_sub_cancel, Nat.add_comm 1, List.take_succ_cons, sp_nl, sp_nl, sp_nlp r k, List.take_succ_cons]
    · rw [if_neg h, Nat.add_comm 1, List.take_succ_cons, sp_ne h, sp_ne h, sp_nlp r k, hd_take]
/-- Where the k-th line begins (from 0 on). -/
def abv : Nat → List UInt8 → Nat
  | 0, _ => 0
  | _ + 1, [] => 0
  | k + 1, c :: r => if c = 10 then 1 + abv k r else 1 + abv (k + 1) r
theorem sp_abv : ∀ (l : List UInt8) (k : Nat), k ≤ l.count 10 → sp (l.take (abv k l)) = (sp l).take k ++ [[]]
  | l, 0, _ => by unfold abv; rfl
  | [], k + 1, h => by simp at h
  | c :: r, k + 1, h => by
    unfold abv
    by_cases e : c = 10
    · subst e
      rw [List.count_cons_self] at h
      rw [if_pos rfl, Nat.add_comm 1, List.take_succ_cons, sp_nl, sp_nl, sp_abv r k (by omega), List.take_succ_cons, List.cons_append]
    · rw [List.count_cons_of_ne (by simpa using e)] at h
      rw [if_neg e, Nat.add_comm 1, List.take_succ_cons, sp_ne e, sp_ne e, sp_abv r (k + 1) h, ← hd_take]
      obtain ⟨a, b, hab⟩ := sp_cons r
      rw [hab]
      rfl
theorem nlp_at : ∀ (l : List UInt8) (i : Nat), l[i]? = some 10 → nlp ((l.take i).count 10 + 1) l = i
  | [], i, h => by simp at h
  | c :: r, 0, h => by
    have h : c = 10 := by simpa using h
    subst h
    unfold nlp
    rw [if_pos rfl, if_pos (by simp)]
  | c :: r, i + 1, h => by
    have ih := nlp_at r i (by simpa using h)
    unfold nlp
    rw [List.take_succ_cons]
    by_cases e : c = 10
    · subst e
      rw [if_pos rfl, List.count_cons_self, if_neg (by omega), Nat.add_sub_cancel, ih, Nat.add_comm]
    · rw [if_neg e, List.count_cons_of_ne (by simpa using e), ih, Nat.add_comm]
theorem abv_at : ∀ (l : List UInt8) (i : Nat), l[i]? = some 10 → abv ((l.take i).count 10 + 1) l = i + 1
  | [], i, h => by simp at h
  | c :: r, 0, h => by
    have h : c = 10 := by simpa using h
    subst h
    simp [abv]
  | c :: r, i + 1, h => by
    have ih := abv_at r i (by simpa using h)
    unfold abv
    rw [List.take_succ_cons]
    by_cases e : c = 10
    · subst e
      rw [if_pos rfl, List.count_cons_self, ih, Nat.add_comm]
    · rw [if_neg e, List.count_cons_of_ne (by simpa using e), ih, Nat.add_comm]
theorem nlp_far : ∀ (l : List UInt8) (k : Nat), l.count 10 < k → nlp k l = l.length
  | [], k, _ => by unfold nlp; rfl
  | c :: r, k, h => by
    unfold nlp
    by_cases e : c = 10
    · subst e
      rw [List.count_cons_self] at h
      rw [if_pos rfl, if_neg (by omega), nlp_far r (k - 1) (by omega), List.length_cons, Nat.add_comm]
    · rw [List.count_cons_of_ne (by simpa using e)] at h
      rw [if_neg e, nlp_far r k h, List.length_cons, Nat.add_comm]
theorem nlp_le : ∀ (l : List UInt8) (k : Nat), nlp k l ≤ l.length
  | [], k => by unfold nlp; exact Nat.le_refl _
  | c :: r, k => by
    unfold nlp
    rw [List.length_cons]
    split
    · split
      · omega
      · have := nlp_le r (k - 1); omega
    · have := nlp_le r k; omega
theorem abv_le : ∀ (l : List UInt8) (k : Nat), abv k l ≤ l.length
  | l, 0 => by unfold abv; exact Nat.zero_le _
  | [], k + 1 => by unfold abv; exact Nat.le_refl _
  | c :: r, k + 1 => by
    unfold abv
    rw [List.length_cons]
    split
    · have := abv_le r k; omega
    · have := abv_le r (k + 1); omega
theorem lns_nlp (s : ByteArray) (k : Nat) : lns (s.extract 0 (nlp (k + 1) s.data.toList)) = (lns s).take (k + 1) := by
  apply map_inj
  rw [lns_sp, Lib.extract_from_zero, sp_nlp, List.map_take, lns_sp]
theorem lns_abv (s : ByteArray) (k : Nat) (h : k ≤ s.data.toList.count 10) : lns (s.extract 0 (abv k s.data.toList)) = (lns s).take k ++ [⟨#[]⟩] := by
  apply map_inj
  rw [lns_sp, Lib.extract_from_zero, sp_abv _ _ h, List.map_append, List.map_take, lns_sp]
  rfl
theorem lns_len (s : ByteArray) : (lns s).length = s.data.toList.count 10 + 1 := by
  have hl : ∀ l : List UInt8, (sp l).length = l.count 10 + 1 := by
    intro l
    induction l with
    | nil => rfl
    | cons c r ih =>
      by_cases e : c = 10
      · subst e; rw [sp_nl, List.length_cons, ih, List.count_cons_self]
      · rw [sp_ne e, List.count_cons_of_ne (by simpa using e), ← ih]
        obtain ⟨a, b, hab⟩ := sp_cons r
        rw [hab]; rfl
  have := congrArg List.length (lns_sp s)
  rw [List.length_map, hl] at this
  exact this
/-! ### where a fault lies -/
theorem fls_ln {m : Int} : ∀ (ss : List Int) (u : Ins) (pv : Pc) (ps acc : List Pc) (F : Flt), pv.ln = m → (∀ p ∈ ps, p.ln = m) → fls u ss pv ps acc = .error F → F.2.1 = m
  | [], u, pv, [], acc, F, _, _, h => by cases h
  | [], u, pv, p :: ps, acc, F, _, hp, h => by
    have h : Except.error (104, p.ln, p.col) = Except.error F := h
    injection h with h
    rw [← h]; exact hp p (List.mem_cons_self ..)
  | s :: ss, u, pv, [], acc, F, hv, _, h => by
    have h : Except.error (102, pv.ln, pv.col + (pv.t.size : Int)) = Except.error F := h
    injection h with h
    rw [← h]; exact hv
  | s :: ss, u, pv, p :: ps, acc, F, _, hp, h => by
    have h : (if s = 6 then (if nmB p.t = true then fls u ss p ps (acc ++ [p]) else .error (103, p.ln, p.col)) else match fil u s p.t with | none => .error (103, p.ln, p.col) | some u' => fls u' ss p ps acc) = .error F := h
    have hp0 := hp p (List.mem_cons_self ..)
    have hps : ∀ x ∈ ps, x.ln = m := fun x hx => hp x (List.mem_cons_of_mem _ hx)
    split at h
    · split at h
      · exact fls_ln ss u p ps _ F hp0 hps h
      · injection h with h
        rw [← h]; exact hp0
    · split at h
      · injection h with h
        rw [← h]; exact hp0
      · exact fls_ln ss _ p ps acc F hp0 hps h
theorem ins_ln {m : Int} {n : Nat} {ws : List Pc} {F : Flt} (hw : ws ≠ []) (hp : ∀ p ∈ ws, p.ln = m) (h : insR n ws = .error F) : F.2.1 = m := by
  cases ws with
  | nil => exact absurd rfl hw
  | cons p r =>
    have hp0 := hp p (List.mem_cons_self ..)
    unfold insR at h
    simp only at h
    split at h
    · injection h with h
      rw [← h]; exact hp0
    · split at h
      · injection h with h
        rw [← h]; exact hp0
      · exact fls_ln _ _ _ _ _ F hp0 (fun x hx => hp x (List.mem_cons_of_mem _ hx)) h
theorem ln_ln {m : Int} : ∀ (ws : List Pc) (s : Sx) (F : Flt), (∀ p ∈ ws, p.ln = m) → lnR ws s = .error F → F.2.1 = m
  | [], s, F, _, h => by cases h
  | p :: r, s, F, hp, h => by
    have hp0 := hp p (List.mem_cons_self ..)
    unfold lnR at h
    split at h
    · split at h
      · split at h
        · injection h with h
          rw [← h]; exact hp0
        · exact ln_ln r _ F (fun x hx => hp x (List.mem_cons_of_mem _ hx)) h
      · injection h with h
        rw [← h]; exact hp0
    · split at h
      · rename_i e he
        injection h with h
        subst h
        exact ins_ln (by simp) hp he
      · cases h
theorem wdf_ln (s : ByteArray) (num : Int) : ∀ n i, ∀ p ∈ wdf s num n i, p.ln = num
  | 0, i => fun p hp => by cases hp
  | n + 1, i => by
    intro p hp
    unfold wdf at hp
    split at hp
    · rcases List.mem_append.1 hp with hp | hp
      · split at hp
        · have hp : p = ⟨s.extract i (stp s (s.size - i) i), num, (i : Int) + 1⟩ := by simpa using hp
          rw [hp]
        · cases hp
      · exact wdf_ln s num n _ p hp
    · cases hp
theorem rd_err : ∀ (L : List ByteArray) (i : Nat) (st : Sx) (F : Flt), rdR L i st = .error F → ∃ k, k < L.length ∧ F.2.1 = ((i + k + 1 : Nat) : Int) ∧ (∃ st', rdR (L.take k) i st = .ok st') ∧ rdR (L.take (k + 1)) i st = .error F
  | [], i, st, F, h => by cases h
  | l :: ls, i, st, F, h => by
    unfold rdR at h
    cases hl : lnR (wds l ((i : Int) + 1)) st with
    | error e =>
      rw [hl] at h
      have h : Except.error e = Except.error F := h
      injection h with h
      subst h
      have := ln_ln _ _ _ (fun p hp => wdf_ln _ _ _ _ p hp) hl
      refine ⟨0, by simp, by rw [this]; omega, ⟨st, rfl⟩, ?_⟩
      show rdR (l :: ls.take 0) i st = _
      unfold rdR
      rw [hl]
    | ok st1 =>
      rw [hl] at h
      obtain ⟨k, hk, hF, ⟨st', h1⟩, h2⟩ := rd_err ls (i + 1) st1 F h
      refine ⟨k + 1, by simp; omega, by rw [hF]; omega, ⟨st', ?_⟩, ?_⟩
      · rw [List.take_succ_cons]
        unfold rdR
        rw [hl]; exact h1
      · rw [List.take_succ_cons]
        unfold rdR
        rw [hl]; exact h2
theorem rd_app : ∀ (L : List ByteArray) (i : Nat) (st st' : Sx), rdR L i st = .ok st' → rdR (L ++ [⟨#[]⟩]) i st = .ok st'
  | [], i, st, st', h => by
    have h : Except.ok st = Except.ok st' := h
    rw [← h]
    rfl
  | l :: ls, i, st, st', h => by
    rw [List.cons_append]
    unfold rdR at h ⊢
    cases hl : lnR (wds l ((i : Int) + 1)) st with
    | error e => rw [hl] at h; cases h
    | ok st1 =>
      rw [hl] at h
      exact rd_app ls (i + 1) st1 st' h
theorem jo_err (f : ByteArray → Option Nat) : ∀ (js : List (Nat × Pc)) (qs : List Ins) (F : Flt), joR f js qs = .error F → F.1 = 107
  | [], qs, F, h => by cases h
  | x :: r, qs, F, h => by
    have h : (match f x.2.t with | none => .error (107, x.2.ln, x.2.col) | some v => joR f r (qs.set x.1 { qs.getD x.1 ins0 with to := (v : Int) })) = Except.error F := h
    split at h
    · injection h with h
      rw [← h]
    · exact jo_err f r _ F h
/-- What the law asks of a text with a fault in a line. -/
theorem cut_main {s : ByteArray} {F : Flt} (h : prsR s = .error F) (h1 : F.1 ≠ 100) (h2 : F.1 ≠ 107) : ∃ k, k ≤ s.data.toList.count 10 ∧ F.2.1 = ((k + 1 : Nat) : Int) ∧ prF (prsR (s.extract 0 (nlp (k + 1) s.data.toList))) = F ∧ ((prF (prsR (s.extract 0 (abv k s.data.toList)))).1 = 0 ∨ (prF (prsR (s.extract 0 (abv k s.data.toList)))).1 = 107) := by
  unfold prsR at h
  split at h
  · injection h with h
    exact absurd (by rw [← h]) h1
  · rename_i hs
    cases hr : rdR (lns s) 0 ⟨[], 0, fun _ => none, []⟩ with
    | ok st =>
      rw [hr] at h
      exact absurd (jo_err _ _ _ _ h) h2
    | error e =>
      rw [hr] at h
      have h : Except.error e = Except.error F := h
      injection h with h
      subst h
      obtain ⟨k, hk, hF, ⟨st', g1⟩, g2⟩ := rd_err _ _ _ _ hr
      have hl := lns_len s
      refine ⟨k, by omega, by rw [hF]; omega, ?_, ?_⟩
      · have hsz : ¬ 4096 < (s.extract 0 (nlp (k + 1) s.data.toList)).size := by rw [ByteArray.size_extract]; omega
        unfold prsR
        rw [if_neg hsz, lns_nlp, g2]
        rfl
      · have hsz : ¬ 4096 < (s.extract 0 (abv k s.data.toList)).size := by rw [ByteArray.size_extract]; omega
        unfold prsR
        rw [if_neg hsz, lns_abv s k (by omega), rd_app _ _ _ _ g1]
        cases hj : joR st'.f st'.js st'.qs with
        | ok l => exact .inl (by simp only [hj]; rfl)
        | error e => exact .inr (by simp only [hj]; exact jo_err _ _ _ _ hj)
end Go.Proofs.YtclednbclgkdaaaDoor
