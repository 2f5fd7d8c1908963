import Derived.Test.YtdmfkepnopppaaaGreatDoorPjK
import Derived.Test.YtdmfkepnopppaaaGreatDoorParseW
import Derived.Lib.Join
import Derived.Lib.SlicesCompact
namespace Go.Proofs.YtdmfkepnopppaaaGreatDoor
open Go.RowKit
/-- A text's lines, sign by sign. -/
def sp : List UInt8 → List (List UInt8)
  | [] => [[]]
  | c :: r => if c = 10 then [] :: sp r else match sp r with
    | h :: t => (c :: h) :: t
    | [] => [[c]]
def hd (c : UInt8) : List (List UInt8) → List (List UInt8)
  | h :: t => (c :: h) :: t
  | [] => [[c]]
theorem sp_ne {c : UInt8} {r : List UInt8} (h : c ≠ 10) : sp (c :: r) = hd c (sp r) := by
  show (if c = 10 then [] :: sp r else match sp r with | h :: t => (c :: h) :: t | [] => [[c]]) = _
  rw [if_neg h]
  cases sp r <;> rfl
theorem sp_nl (r : List UInt8) : sp (10 :: r) = [] :: sp r := by
  show (if (10 : UInt8) = 10 then [] :: sp r else _) = _
  rw [if_pos rfl]
theorem sp_cons (l : List UInt8) : ∃ h t, sp l = h :: t := by
  cases l with
  | nil => exact ⟨_, _, rfl⟩
  | cons c r =>
    by_cases h : c = 10
    · subst h; exact ⟨_, _, sp_nl r⟩
    · rw [sp_ne h]
      cases sp r with
      | nil => exact ⟨_, _, rfl⟩
      | cons a b => exact ⟨_, _, rfl⟩
theorem split_sp : ∀ (l : List UInt8) (k : Nat), l.count 10 = k → Lib.splitK [10] 0 k l = sp l
  | [], k, hk => by subst hk; rfl
  | c :: r, k, hk => by
    by_cases h : c = 10
    · subst h
      rw [List.count_cons_self] at hk
      subst hk
      have hix : Lib.index (10 :: r) [10] = 0 := by rw [Lib.index]; simp [List.isPrefixOf]
      unfold Lib.splitK
      rw [hix]
      rw [if_neg (by decide), sp_nl]
      have := split_sp r (r.count 10) rfl
      simp only [Int.toNat_zero, List.length_singleton, Nat.zero_add, List.take_zero, List.drop_succ_cons, List.drop_zero]
      rw [this]
    · rw [List.count_cons_of_ne (by simpa using h)] at hk
      have i := split_sp r k hk
      rw [sp_ne h, ← i]
      cases k with
      | zero => rfl
      | succ k =>
        have hp : ([10] : List UInt8).isPrefixOf (c :: r) = false := by simp [List.isPrefixOf, Ne.symm h]
        have hix : Lib.index (c :: r) [10] = if Lib.index r [10] == -1 then -1 else Lib.index r [10] + 1 := by rw [Lib.index, hp]; simp
        unfold Lib.splitK
        rw [hix]
        by_cases hm : Lib.index r [10] = -1
        · rw [hm]
          rfl
        · have hge := Lib.index_ge r [10]
          obtain ⟨j, hj⟩ : ∃ j : Nat, Lib.index r [10] = j := ⟨(Lib.index r [10]).toNat, by omega⟩
          rw [hj]
          have b1 : ((j : Int) == -1) = false := beq_eq_false_iff_ne.2 (by omega)
          have b2 : ((j : Int) + 1 == -1) = false := beq_eq_false_iff_ne.2 (by omega)
          rw [b1]
          simp only [Bool.false_eq_true, if_false]
          rw [b2]
          simp only [Bool.false_eq_true, if_false]
          have e1 : ((j : Int) + 1).toNat = j + 1 := by omega
          rw [e1, Int.toNat_natCast]
          rfl
theorem lns_sp (s : ByteArray) : (lns s).map (·.data.toList) = sp s.data.toList := by
  unfold lns
  rw [Lib.splitB_data]
  have hc : Lib.countB s ⟨#[10]⟩ = s.data.toList.count 10 := by
    rw [← Lib.count_one]
  rw [hc]
  exact split_sp _ _ rfl
theorem ba_ext {a b : ByteArray} (h : a.data.toList = b.data.toList) : a = b := by
  cases a; cases b
  simp only [ByteArray.mk.injEq]
  exact Array.ext' h
theorem map_inj {l m : List ByteArray} (h : l.map (·.data.toList) = m.map (·.data.toList)) : l = m := by
  induction l generalizing m with
  | nil => cases m with
    | nil => rfl
    | cons a b => cases h
  | cons a b ih => cases m with
    | nil => cases h
    | cons c d =>
      injection h with h1 h2
      rw [ba_ext h1, ih h2]
/-- Where the k-th line ends. -/
def nlp : Nat → List UInt8 → Nat
  | _, [] => 0
  | k, c :: r => if c = 10 then (if k ≤ 1 then 0 else 1 + nlp (k - 1) r) else 1 + nlp k r
theorem hd_take (c : UInt8) (l : List (List UInt8)) (k : Nat) : hd c (l.take (k + 1)) = (hd c l).take (k + 1) := by
  cases l with
  | nil => simp [hd]
  | cons a b => rfl
theorem sp_nlp : ∀ (l : List UInt8) (k : Nat), sp (l.take (nlp (k + 1) l)) = (sp l).take (k + 1)
  | [], k => by simp [sp]
  | c :: r, k => by
    unfold nlp
    by_cases h : c = 10
    · subst h
      rw [if_pos rfl]
      cases k with
      | zero => rw [if_pos (Nat.le_refl _), sp_nl]; rfl
      | succ k =>
        rw [if_neg (by omega), Nat.add_sub_cancel, Nat.add_comm 1, List.take_succ_cons, sp_nl, sp_nl, sp_nlp r k, List.take_succ_cons]
    · rw [if_neg h, Nat.add_comm 1, List.take_succ_cons, sp_ne h, sp_ne h, sp_nlp r k, hd_take]
/-- Where the k-th line begins (from 0 on). -/
def abv : Nat → List UInt8 → Nat
  | 0, _ => 0
  | _ + 1, [] => 0
  | k + 1, c :: r => if c = 10 then 1 + abv k r else 1 + abv (k + 1) r
theorem sp_abv : ∀ (l : List UInt8) (k : Nat), k ≤ l.count 10 → sp (l.take (abv k l)) = (sp l).take k ++ [[]]
  | l, 0, _ => by unfold abv; rfl
  | [], k + 1, h => by simp at h
  | c :: r, k + 1, h => by
    unfold abv
    by_cases e : c = 10
    · subst e
      rw [List.count_cons_self] at h
      rw [if_pos rfl, Nat.add_comm 1, List.take_succ_cons, sp_nl, sp_nl, sp_abv r k (by omega), List.take_succ_cons, List.cons_append]
    · rw [List.count_cons_of_ne (by simpa using e)] at h
      rw [if_neg e, Nat.add_comm 1, List.take_succ_cons, sp_ne e, sp_ne e, sp_abv r (k + 1) h, ← hd_take]
      obtain ⟨a, b, hab⟩ := sp_cons r
      rw [hab]
      rfl
theorem nlp_at : ∀ (l : List UInt8) (i : Nat), l[i]? = some 10 → nlp ((l.take i).count 10 + 1) l = i
  | [], i, h => by simp at h
  | c :: r, 0, h => by
    have h : c = 10 := by simpa using h
    subst h
    unfold nlp
    rw [if_pos rfl, if_pos (by simp)]
  | c :: r, i + 1, h => by
    have ih := nlp_at r i (by simpa using h)
    unfold nlp
    rw [List.take_succ_cons]
    by_cases e : c = 10
    · subst e
      rw [if_pos rfl, List.count_cons_self, if_neg (by omega), Nat.add_sub_cancel, ih, Nat.add_comm]
    · rw [if_neg e, List.count_cons_of_ne (by simpa using e), ih, Nat.add_comm]
theorem abv_at : ∀ (l : List UInt8) (i : Nat), l[i]? = some 10 → abv ((l.take i).count 10 + 1) l = i + 1
  | [], i, h => by simp at h
  | c :: r, 0, h => by
    have h : c = 10 := by simpa using h
    subst h
    simp [abv]
  | c :: r, i + 1, h => by
    have ih := abv_at r i (by simpa using h)
    unfold abv
    rw [List.take_succ_cons]
    by_cases e : c = 10
    · subst e
      rw [if_pos rfl, List.count_cons_self, ih, Nat.add_comm]
    · rw [if_neg e, List.count_cons_of_ne (by simpa using e), ih, Nat.add_comm]
theorem nlp_far : ∀ (l : List UInt8) (k : Nat), l.count 10 < k → nlp k l = l.length
  | [], k, _ => by unfold nlp; rfl
  | c :: r, k, h => by
    unfold nlp
    by_cases e : c = 10
    · subst e
      rw [List.count_cons_self] at h
      rw [if_pos rfl, if_neg (by omega), nlp_far r (k - 1) (by omega), List.length_cons, Nat.add_comm]
    · rw [List.count_cons_of_ne (by simpa using e)] at h
      rw [if_neg e, nlp_far r k h, List.length_cons, Nat.add_comm]
theorem nlp_le : ∀ (l : List UInt8) (k : Nat), nlp k l ≤ l.length
  | [], k => by unfold nlp; exact Nat.le_refl _
  | c :: r, k => by
    unfold nlp
    rw [List.length_cons]
    split
    · split
      · omega
      · have := nlp_le r (k - 1); omega
    · have := nlp_le r k; omega
theorem abv_le : ∀ (l : List UInt8) (k : Nat), abv k l ≤ l.length
  | l, 0 => by unfold abv; exact Nat.zero_le _
  | [], k + 1 => by unfold abv; exact Nat.le_refl _
  | c :: r, k + 1 => by
    unfold abv
    rw [List.length_cons]
    split
    · have := abv_le r k; omega
    · have := abv_le r (k + 1); omega
theorem lns_nlp (s : ByteArray) (k : Nat) : lns (s.extract 0 (nlp (k + 1) s.data.toList)) = (lns s).take (k + 1) := by
  apply map_inj
  rw [lns_sp, Lib.extract_from_zero, sp_nlp, List.map_take, lns_sp]
theorem lns_abv (s : ByteArray) (k : Nat) (h : k ≤ s.data.toList.count 10) : lns (s.extract 0 (abv k s.data.toList)) = (lns s).take k ++ [⟨#[]⟩] := by
  apply map_inj
  rw [lns_sp, Lib.extract_from_zero, sp_abv _ _ h, List.map_append, List.map_take, lns_sp]
  rfl
theorem lns_len (s : ByteArray) : (lns s).length = s.data.toList.count 10 + 1 := by
  have hl : ∀ l : List UInt8, (sp l).length = l.count 10 + 1 := by
    intro l
    induction l with
    | nil => rfl
    | cons c r ih =>
      by_cases e : c = 10
      · subst e; rw [sp_nl, List.length_cons, ih, List.count_cons_self]
      · rw [sp_ne e, List.count_cons_of_ne (by simpa using e), ← ih]
        obtain ⟨a, b, hab⟩ := sp_cons r
        rw [hab]; rfl
  have := congrArg List.length (lns_sp s)
  rw [List.length_map, hl] at this
  exact this
/-! ### where a fault lies -/
theorem fls_ln {m : Int} : ∀ (ss : List Int) (u : Ins) (pv : Pc) (ps acc : List Pc) (F : Flt), pv.ln = m → (∀ p ∈ ps, p.ln = m) → fls u ss pv ps acc = .error F → F.2.1 = m
  | [], u, pv, [], acc, F, _, _, h => by cases h
  | [], u, pv, p :: ps, acc, F, _, hp, h => by
    have h : Except.error (104, p.ln, p.col) = Except.error F := h
    injection h with h
    rw [← h]; exact hp p (List.mem_cons_self ..)
  | s :: ss, u, pv, [], acc, F, hv, _, h => by
    have h : Except.error (102, pv.ln, pv.col + (pv.t.size : Int)) = Except.error F := h
    injection h with h
    rw [← h]; exact hv
  | s :: ss, u, pv, p :: ps, acc, F, _, hp, h => by
    have h : (if s = 6 then (if nmB p.t = true then fls u ss p ps (acc ++ [p]) else .error (103, p.ln, p.col)) else match fil u s p.t with | none => .error (103, p.ln, p.col) | some u' => fls u' ss p ps acc) = .error F := h
    have hp0 := hp p (List.mem_cons_self ..)
    have hps : ∀ x ∈ ps, x.ln = m := fun x hx => hp x (List.mem_cons_of_mem _ hx)
    split at h
    · split at h
      · exact fls_ln ss u p ps _ F hp0 hps h
      · injection h with h
        rw [← h]; exact hp0
    · split at h
      · injection h with h
        rw [← h]; exact hp0
      · exact fls_ln ss _ p ps acc F hp0 hps h
theorem ins_ln {m : Int} {n : Nat} {ws : List Pc} {F : Flt} (hw : ws ≠ []) (hp : ∀ p ∈ ws, p.ln = m) (h : insR n ws = .error F) : F.2.1 = m := by
  cases ws with
  | nil => exact absurd rfl hw
  | cons p r =>
    have hp0 := hp p (List.mem_cons_self ..)
    unfold insR at h
    simp only at h
    split at h
    · injection h with h
      rw [← h]; exact hp0
    · split at h
      · injection h with h
        rw [← h]; exact hp0
      · exact fls_ln _ _ _ _ _ F hp0 (fun x hx => hp x (List.mem_cons_of_mem _ hx)) h
theorem ln_ln {m : Int} : ∀ (ws : List Pc) (s : Sx) (F : Flt), (∀ p ∈ ws, p.ln = m) → lnR ws s = .error F → F.2.1 = m
  | [], s, F, _, h => by cases h
  | p :: r, s, F, hp, h => by
    have hp0 := hp p (List.mem_cons_self ..)
    unfold lnR at h
    split at h
    · split at h
      · split at h
        · injection h with h
          rw [← h]; exact hp0
        · exact ln_ln r _ F (fun x hx => hp x (List.mem_cons_of_mem _ hx)) h
      · injection h with h
        rw [← h]; exact hp0
    · split at h
      · rename_i e he
        injection h with h
        subst h
        exact ins_ln (by simp) hp he
      · cases h
theorem wdf_ln (s : ByteArray) (num : Int) : ∀ n i, ∀ p ∈ wdf s num n i, p.ln = num
  | 0, i => fun p hp => by cases hp
  | n + 1, i => by
    intro p hp
    unfold wdf at hp
    split at hp
    · rcases List.mem_append.1 hp with hp | hp
      · split at hp
        · have hp : p = ⟨s.extract i (stp s (s.size - i) i), num, (i : Int) + 1⟩ := by simpa using hp
          rw [hp]
        · cases hp
      · exact wdf_ln s num n _ p hp
    · cases hp
theorem rd_err : ∀ (L : List ByteArray) (i : Nat) (st : Sx) (F : Flt), rdR L i st = .error F → ∃ k, k < L.length ∧ F.2.1 = ((i + k + 1 : Nat) : Int) ∧ (∃ st', rdR (L.take k) i st = .ok st') ∧ rdR (L.take (k + 1)) i st = .error F
  | [], i, st, F, h => by cases h
  | l :: ls, i, st, F, h => by
    unfold rdR at h
    cases hl : lnR (wds l ((i : Int) + 1)) st with
    | error e =>
      rw [hl] at h
      have h : Except.error e = Except.error F := h
      injection h with h
      subst h
      have := ln_ln _ _ _ (fun p hp => wdf_ln _ _ _ _ p hp) hl
      refine ⟨0, by simp, by rw [this]; omega, ⟨st, rfl⟩, ?_⟩
      show rdR (l :: ls.take 0) i st = _
      unfold rdR
      rw [hl]
    | ok st1 =>
      rw [hl] at h
      obtain ⟨k, hk, hF, ⟨st', h1⟩, h2⟩ := rd_err ls (i + 1) st1 F h
      refine ⟨k + 1, by simp; omega, by rw [hF]; omega, ⟨st', ?_⟩, ?_⟩
      · rw [List.take_succ_cons]
        unfold rdR
        rw [hl]; exact h1
      · rw [List.take_succ_cons]
        unfold rdR
        rw [hl]; exact h2
theorem rd_app : ∀ (L : List ByteArray) (i : Nat) (st st' : Sx), rdR L i st = .ok st' → rdR (L ++ [⟨#[]⟩]) i st = .ok st'
  | [], i, st, st', h => by
    have h : Except.ok st = Except.ok st' := h
    rw [← h]
    rfl
  | l :: ls, i, st, st', h => by
    rw [List.cons_append]
    unfold rdR at h ⊢
    cases hl : lnR (wds l ((i : Int) + 1)) st with
    | error e => rw [hl] at h; cases h
    | ok st1 =>
      rw [hl] at h
      exact rd_app ls (i + 1) st1 st' h
theorem jo_err (f : ByteArray → Option Nat) : ∀ (js : List (Nat × Pc)) (qs : List Ins) (F : Flt), joR f js qs = .error F → F.1 = 107
  | [], qs, F, h => by cases h
  | x :: r, qs, F, h => by
    have h : (match f x.2.t with | none => .error (107, x.2.ln, x.2.col) | some v => joR f r (qs.set x.1 { qs.getD x.1 ins0 with to := (v : Int) })) = Except.error F := h
    split at h
    · injection h with h
      rw [← h]
    · exact jo_err f r _ F h
/-- What the law asks of a text with a fault in a line. -/
theorem cut_main {s : ByteArray} {F : Flt} (h : prsR s = .error F) (h1 : F.1 ≠ 100) (h2 : F.1 ≠ 107) : ∃ k, k ≤ s.data.toList.count 10 ∧ F.2.1 = ((k + 1 : Nat) : Int) ∧ prF (prsR (s.extract 0 (nlp (k + 1) s.data.toList))) = F ∧ ((prF (prsR (s.extract 0 (abv k s.data.toList)))).1 = 0 ∨ (prF (prsR (s.extract 0 (abv k s.data.toList)))).1 = 107) := by
  unfold prsR at h
  split at h
  · injection h with h
    exact absurd (by rw [← h]) h1
  · rename_i hs
    cases hr : rdR (lns s) 0 ⟨[], 0, fun _ => none, []⟩ with
    | ok st =>
      rw [hr] at h
      exact absurd (jo_err _ _ _ _ h) h2
    | error e =>
      rw [hr] at h
      have h : Except.error e = Except.error F := h
      injection h with h
      subst h
      obtain ⟨k, hk, hF, ⟨st', g1⟩, g2⟩ := rd_err _ _ _ _ hr
      have hl := lns_len s
      refine ⟨k, by omega, by rw [hF]; omega, ?_, ?_⟩
      · have hsz : ¬ 4096 < (s.extract 0 (nlp (k + 1) s.data.toList)).size := by rw [ByteArray.size_extract]; omega
        unfold prsR
        rw [if_neg hsz, lns_nlp, g2]
        rfl
      · have hsz : ¬ 4096 < (s.extract 0 (abv k s.data.toList)).size := by rw [ByteArray.size_extract]; omega
        unfold prsR
        rw [if_neg hsz, lns_abv s k (by omega), rd_app _ _ _ _ g1]
        cases hj : joR st'.f st'.js st'.qs with
        | ok l => exact .inl (by simp only [hj]; rfl)
        | error e => exact .inr (by simp only [hj]; exact jo_err _ _ _ _ hj)
end Go.Proofs.YtdmfkepnopppaaaGreatDoor
namespace Go.Proofs.YtdmfkepnopppaaaGreatDoor
open Go.RowKit
/-- A word one column on. -/
def Pc.sh (p : Pc) : Pc := { p with col := p.col + 1 }
def shF (f : Flt) : Flt := (f.1, f.2.1, f.2.2 + 1)
def shI : Except Flt (Ins × List Pc) → Except Flt (Ins × List Pc)
  | .error e => .error (shF e)
  | .ok (q, l) => .ok (q, l.map Pc.sh)
theorem fls_sh : ∀ (ss : List Int) (u : Ins) (pv : Pc) (ps acc : List Pc), fls u ss pv.sh (ps.map Pc.sh) (acc.map Pc.sh) = shI (fls u ss pv ps acc)
  | [], u, pv, [], acc => rfl
  | [], u, pv, p :: ps, acc => rfl
  | s :: ss, u, pv, [], acc => by
    show Except.error (102, pv.ln, pv.col + 1 + (pv.t.size : Int)) = Except.error (102, pv.ln, pv.col + (pv.t.size : Int) + 1)
    rw [Int.add_right_comm]
  | s :: ss, u, pv, p :: ps, acc => by
    show (if s = 6 then (if nmB p.t = true then fls u ss p.sh (ps.map Pc.sh) (acc.map Pc.sh ++ [p.sh]) else .error (103, p.ln, p.col + 1)) else match fil u s p.t with
      | none => .error (103, p.ln, p.col + 1)
      | some u' => fls u' ss p.sh (ps.map Pc.sh) (acc.map Pc.sh)) = shI (if s = 6 then (if nmB p.t = true then fls u ss p ps (acc ++ [p]) else .error (103, p.ln, p.col)) else match fil u s p.t with
      | none => .error (103, p.ln, p.col)
      | some u' => fls u' ss p ps acc)
    by_cases h : s = 6
    · rw [if_pos h, if_pos h]
      by_cases g : nmB p.t = true
      · rw [if_pos g, if_pos g, ← fls_sh ss u p ps (acc ++ [p]), List.map_append]
        rfl
      · rw [if_neg g, if_neg g]; rfl
    · rw [if_neg h, if_neg h]
      cases fil u s p.t with
      | none => rfl
      | some u' => exact fls_sh ss u' p ps acc
theorem insR_sh (m : Nat) (p : Pc) (r : List Pc) : insR m ((p :: r).map Pc.sh) = shI (insR m (p :: r)) := by
  show (match nmd p.t with
    | none => .error (101, p.ln, p.col + 1)
    | some q => if m = 64 then .error (106, p.ln, p.col + 1) else fls q (slo q.code.toNat) p.sh (r.map Pc.sh) []) = shI (match nmd p.t with
    | none => .error (101, p.ln, p.col)
    | some q => if m = 64 then .error (106, p.ln, p.col) else fls q (slo q.code.toNat) p r [])
  cases nmd p.t with
  | none => rfl
  | some q =>
    show (if m = 64 then _ else _) = shI (if m = 64 then _ else _)
    by_cases h : m = 64
    · rw [if_pos h, if_pos h]; rfl
    · rw [if_neg h, if_neg h]
      exact fls_sh (slo q.code.toNat) q p r []
def shJ (x : Nat × Pc) : Nat × Pc := (x.1, x.2.sh)
def Sx.sh (s : Sx) : Sx := { s with js := s.js.map shJ }
def shX : Except Flt Sx → Except Flt Sx
  | .error e => .error (shF e)
  | .ok s => .ok s.sh
theorem lnR_sh : ∀ (ps : List Pc) (s : Sx), lnR (ps.map Pc.sh) s.sh = shX (lnR ps s)
  | [], s => rfl
  | p :: r, s => by
    show (if Lib.hasSuffix p.t.data.toList [58] = true then
      (if nmB (lab p.t) = true then match s.f (lab p.t) with
        | some _ => .error (105, p.ln, p.col + 1)
        | none => lnR (r.map Pc.sh) ({ s with n := s.n + 1, f := upd s.f (lab p.t) (some s.qs.length) } : Sx).sh
      else .error (101, p.ln, p.col + 1))
    else match insR s.qs.length ((p :: r).map Pc.sh) with
      | .error e => .error e
      | .ok (q, ps) => .ok { s.sh with qs := s.qs ++ [q], js := s.js.map shJ ++ ps.map (fun p => (s.qs.length, p)) }) = shX (if Lib.hasSuffix p.t.data.toList [58] = true then
      (if nmB (lab p.t) = true then match s.f (lab p.t) with
        | some _ => .error (105, p.ln, p.col)
        | none => lnR r { s with n := s.n + 1, f := upd s.f (lab p.t) (some s.qs.length) }
      else .error (101, p.ln, p.col))
    else match insR s.qs.length (p :: r) with
      | .error e => .error e
      | .ok (q, ps) => .ok { s with qs := s.qs ++ [q], js := s.js ++ ps.map (fun p => (s.qs.length, p)) })
    by_cases h : Lib.hasSuffix p.t.data.toList [58] = true
    · rw [if_pos h, if_pos h]
      by_cases g : nmB (lab p.t) = true
      · rw [if_pos g, if_pos g]
        cases s.f (lab p.t) with
        | some v => rfl
        | none => exact lnR_sh r _
      · rw [if_neg g, if_neg g]; rfl
    · rw [if_neg h, if_neg h, insR_sh]
      cases insR s.qs.length (p :: r) with
      | error e => rfl
      | ok x =>
        obtain ⟨q, ps⟩ := x
        show Except.ok _ = Except.ok _
        refine congrArg Except.ok ?_
        show (⟨s.qs ++ [q], s.n, s.f, s.js.map shJ ++ (ps.map Pc.sh).map (fun p => (s.qs.length, p))⟩ : Sx) = ⟨s.qs ++ [q], s.n, s.f, (s.js ++ ps.map (fun p => (s.qs.length, p))).map shJ⟩
        rw [List.map_append, List.map_map, List.map_map]
        rfl
/-- Lines whose words are one column on. -/
def LS : List ByteArray → List ByteArray → Prop
  | [], [] => True
  | a :: l, b :: m => (∀ n, wds b n = (wds a n).map Pc.sh) ∧ LS l m
  | _, _ => False
theorem rdR_sh : ∀ (l m : List ByteArray) (i : Nat) (s : Sx), LS l m → rdR m i s.sh = shX (rdR l i s)
  | [], [], i, s, _ => rfl
  | a :: l, b :: m, i, s, h => by
    show (match lnR (wds b ((i : Int) + 1)) s.sh with | .error e => .error e | .ok s' => rdR m (i + 1) s') = shX (match lnR (wds a ((i : Int) + 1)) s with | .error e => .error e | .ok s' => rdR l (i + 1) s')
    rw [h.1, lnR_sh]
    cases lnR (wds a ((i : Int) + 1)) s with
    | error e => rfl
    | ok s' => exact rdR_sh l m (i + 1) s' h.2
  | [], b :: m, i, s, h => h.elim
  | a :: l, [], i, s, h => h.elim
def shL : Except Flt (List Ins) → Except Flt (List Ins)
  | .error e => .error (shF e)
  | .ok s => .ok s
theorem joR_sh (f : ByteArray → Option Nat) : ∀ (js : List (Nat × Pc)) (qs : List Ins), joR f (js.map shJ) qs = shL (joR f js qs)
  | [], qs => rfl
  | x :: r, qs => by
    show (match f x.2.t with | none => .error (107, x.2.ln, x.2.col + 1) | some v => joR f (r.map shJ) (qs.set x.1 { qs.getD x.1 ins0 with to := (v : Int) })) = shL (match f x.2.t with | none => .error (107, x.2.ln, x.2.col) | some v => joR f r (qs.set x.1 { qs.getD x.1 ins0 with to := (v : Int) }))
    cases f x.2.t with
    | none => rfl
    | some v => exact joR_sh f r _
theorem prsR_sh {s d : ByteArray} (hs : s.size ≤ 4096) (hd : d.size ≤ 4096) (h : LS (lns s) (lns d)) : prsR d = shL (prsR s) := by
  unfold prsR
  rw [if_neg (by omega), if_neg (by omega)]
  have e := rdR_sh (lns s) (lns d) 0 ⟨[], 0, fun _ => none, []⟩ h
  have e0 : (⟨[], 0, fun _ => none, []⟩ : Sx).sh = ⟨[], 0, fun _ => none, []⟩ := rfl
  rw [e0] at e
  rw [e]
  cases rdR (lns s) 0 ⟨[], 0, fun _ => none, []⟩ with
  | error e => rfl
  | ok st => exact joR_sh st.f st.js st.qs
/-- A line with its remark off, sign by sign. -/
theorem cut_tw : ∀ (l : List UInt8), (Lib.cut l [35]).1 = l.takeWhile (fun c => c != 35)
  | [] => rfl
  | c :: r => by
    have ih := cut_tw r
    unfold Lib.cut at ih ⊢
    have hge := Lib.index_ge r [35]
    by_cases h : c = 35
    · subst h
      have hix : Lib.index (35 :: r) [35] = 0 := by rw [Lib.index]; simp [List.isPrefixOf]
      rw [hix]
      rfl
    · have hp : ([35] : List UInt8).isPrefixOf (c :: r) = false := by simp [List.isPrefixOf, Ne.symm h]
      have hix : Lib.index (c :: r) [35] = if Lib.index r [35] == -1 then -1 else Lib.index r [35] + 1 := by rw [Lib.index, hp]; simp
      have ht : List.takeWhile (fun c => c != 35) (c :: r) = c :: r.takeWhile (fun c => c != 35) := by rw [List.takeWhile_cons_of_pos (by simpa using h)]
      rw [hix, ht, ← ih]
      by_cases hm : Lib.index r [35] = -1
      · rw [hm]
        rfl
      · obtain ⟨j, hj⟩ : ∃ j : Nat, Lib.index r [35] = j := ⟨(Lib.index r [35]).toNat, by omega⟩
        rw [hj]
        have b1 : ((j : Int) == -1) = false := beq_eq_false_iff_ne.2 (by omega)
        rw [b1]
        simp only [Bool.false_eq_true, if_false]
        rw [if_pos (by omega), if_pos (by omega)]
        have e1 : ((j : Int) + 1).toNat = j + 1 := by omega
        rw [e1, Int.toNat_natCast]
        rfl
theorem stp_sh {b d : ByteArray} {pad : List UInt8} (hd : d.data.toList = 9 :: (b.data.toList ++ pad)) (hp : ∀ c ∈ pad, blk c = true) : ∀ (n i : Nat), i + n = b.size → stp d (n + pad.length) (i + 1) = stp b n i + 1
  | 0, i, h => by
    rw [Nat.zero_add]
    cases pad with
    | nil => rfl
    | cons c p =>
      show (if blk (d.data.toList.getD (i + 1) 0) = true then i + 1 else _) = i + 1
      rw [if_pos]
      rw [hd]
      have hl : b.data.toList.length = b.size := by simp
      rw [List.getD_cons_succ, List.getD_eq_getElem?_getD, List.getElem?_append_right (by omega), show i - b.data.toList.length = 0 by omega]
      exact hp c (by simp)
  | n + 1, i, h => by
    have hl : b.data.toList.length = b.size := by simp
    have e : d.data.toList.getD (i + 1) 0 = b.data.toList.getD i 0 := by
      rw [hd, List.getD_cons_succ, List.getD_eq_getElem?_getD, List.getElem?_append_left (by omega), List.getD_eq_getElem?_getD]
    rw [show n + 1 + pad.length = (n + pad.length) + 1 by omega]
    unfold stp
    rw [e]
    by_cases g : blk (b.data.toList.getD i 0) = true
    · rw [if_pos g, if_pos g]
    · rw [if_neg g, if_neg g]
      exact stp_sh hd hp n (i + 1) (by omega)
theorem wdf_blank {d : ByteArray} (num : Int) : ∀ (M j : Nat), (∀ i, j ≤ i → i < d.size → blk (d.data.toList.getD i 0) = true) → wdf d num M j = []
  | 0, j, h => rfl
  | M + 1, j, h => by
    unfold wdf
    by_cases g : j < d.size
    · rw [if_pos g]
      obtain ⟨k, hk⟩ : ∃ k, d.size - j = k + 1 := ⟨d.size - j - 1, by omega⟩
      have e : stp d (d.size - j) j = j := by
        rw [hk]
        show (if blk (d.data.toList.getD j 0) = true then j else _) = j
        rw [if_pos (h j (Nat.le_refl _) g)]
      rw [e, if_neg (Nat.lt_irrefl _), wdf_blank num M (j + 1) (fun i h1 h2 => h i (by omega) h2)]
      rfl
    · rw [if_neg g]
theorem ext_sh {b d : ByteArray} {pad : List UInt8} (hd : d.data.toList = 9 :: (b.data.toList ++ pad)) (i j : Nat) (hij : i ≤ j) (hj : j ≤ b.size) : d.extract (i + 1) (j + 1) = b.extract i j := by
  have hl : b.data.toList.length = b.size := by simp
  apply ba_ext
  rw [ByteArray.data_extract, ByteArray.data_extract, Array.toList_extract, Array.toList_extract, hd]
  rw [List.extract_eq_take_drop, List.extract_eq_take_drop]
  rw [List.drop_succ_cons, show j + 1 - (i + 1) = j - i by omega, List.drop_append_of_le_length (by omega), List.take_append_of_le_length (by rw [List.length_drop]; omega)]
theorem wdf_sh {b d : ByteArray} {pad : List UInt8} (hd : d.data.toList = 9 :: (b.data.toList ++ pad)) (hp : ∀ c ∈ pad, blk c = true) (num : Int) : ∀ (n M i : Nat), b.size < n + i → d.size < M + (i + 1) → wdf d num M (i + 1) = (wdf b num n i).map Pc.sh := by
  have hl : b.data.toList.length = b.size := by simp
  have hdl : d.data.toList.length = d.size := by simp
  have hds : d.size = b.size + pad.length + 1 := by rw [← hdl, hd]; simp
  have far : ∀ (n M i : Nat), b.size ≤ i → wdf d num M (i + 1) = (wdf b num n i).map Pc.sh := fun n M i h => by
    have e : wdf b num n i = [] := by
      cases n with
      | zero => rfl
      | succ n => unfold wdf; rw [if_neg (by omega)]
    rw [e]
    refine wdf_blank num M (i + 1) (fun k h1 h2 => ?_)
    rw [hd]
    obtain ⟨k, rfl⟩ : ∃ k', k = k' + 1 := ⟨k - 1, by omega⟩
    rw [List.getD_cons_succ, List.getD_eq_getElem?_getD, List.getElem?_append_right (by omega)]
    have hlt : k - b.data.toList.length < pad.length := by omega
    rw [List.getElem?_eq_getElem hlt]
    exact hp _ (List.getElem_mem hlt)
  intro n
  induction n with
  | zero => intro M i h _; exact far 0 M i (by omega)
  | succ n ih =>
    intro M i h1 h2
    by_cases g : b.size ≤ i
    · exact far _ M i g
    · obtain ⟨M, rfl⟩ : ∃ M', M = M' + 1 := ⟨M - 1, by omega⟩
      have hs := stp_sh hd hp (b.size - i) i (by omega)
      have hsz : d.size - (i + 1) = b.size - i + pad.length := by omega
      have hb := stp_ge b (b.size - i) i
      rw [show wdf d num (M + 1) (i + 1) = (if i + 1 < d.size then (if i + 1 < stp d (d.size - (i + 1)) (i + 1) then [⟨d.extract (i + 1) (stp d (d.size - (i + 1)) (i + 1)), num, ((i + 1 : Nat) : Int) + 1⟩] else []) ++ wdf d num M (stp d (d.size - (i + 1)) (i + 1) + 1) else []) from rfl]
      rw [show wdf b num (n + 1) i = (if i < b.size then (if i < stp b (b.size - i) i then [⟨b.extract i (stp b (b.size - i) i), num, (i : Int) + 1⟩] else []) ++ wdf b num n (stp b (b.size - i) i + 1) else []) from rfl]
      rw [hsz, hs, if_pos (show i + 1 < d.size by omega), if_pos (show i < b.size by omega), List.map_append, ih M (stp b (b.size - i) i + 1) (by omega) (by omega)]
      congr 1
      by_cases e : i < stp b (b.size - i) i
      · rw [if_pos e, if_pos (show i + 1 < stp b (b.size - i) i + 1 by omega), ext_sh hd i _ (by omega) (by omega)]
        simp [Pc.sh]
      · rw [if_neg e, if_neg (show ¬ (i + 1 < stp b (b.size - i) i + 1) by omega)]; rfl
theorem tw_self {p : UInt8 → Bool} : ∀ (l : List UInt8), l.takeWhile p = l ↔ ∀ c ∈ l, p c = true
  | [] => by simp
  | c :: r => by
    have ih := tw_self (p := p) r
    by_cases h : p c = true
    · rw [List.takeWhile_cons_of_pos h]
      simp [ih, h]
    · rw [List.takeWhile_cons_of_neg h]
      simp [h]
/-- What is laid behind a line. -/
def e1 : List UInt8 := [32, 32, 35, 32, 255]
def e2 : List UInt8 := [32, 9, 32, 35, 32, 120, 58, 32, 113, 117, 105, 116]
theorem wds_dress {a d : ByteArray} (h : d.data.toList = 9 :: (a.data.toList ++ e1) ∨ d.data.toList = 9 :: (a.data.toList ++ e2)) (n : Int) : wds d n = (wds a n).map Pc.sh := by
  have hb : ∀ (x : ByteArray), (bare x).data.toList = x.data.toList.takeWhile (fun c => c != 35) := fun x => by
    show (Lib.cut x.data.toList [35]).1.toArray.toList = _
    rw [cut_tw]
  have key : ∃ pad : List UInt8, (bare d).data.toList = 9 :: ((bare a).data.toList ++ pad) ∧ ∀ c ∈ pad, blk c = true := by
    rw [hb, hb]
    by_cases hc : ∀ c ∈ a.data.toList, (c != 35) = true
    · have ha : a.data.toList.takeWhile (fun c => c != 35) = a.data.toList := (tw_self _).2 hc
      rw [ha]
      rcases h with h | h
      · refine ⟨[32, 32], ?_, by decide⟩
        rw [h, List.takeWhile_cons_of_pos (by decide), List.takeWhile_append_of_pos hc]
        rfl
      · refine ⟨[32, 9, 32], ?_, by decide⟩
        rw [h, List.takeWhile_cons_of_pos (by decide), List.takeWhile_append_of_pos hc]
        rfl
    · have hne : (a.data.toList.takeWhile (fun c => c != 35)).length ≠ a.data.toList.length := fun e => by
        apply hc
        have hpre := List.takeWhile_prefix (fun c : UInt8 => c != 35) (l := a.data.toList)
        have := hpre.eq_of_length e
        exact (tw_self _).1 this
      refine ⟨[], ?_, by simp⟩
      rw [List.append_nil]
      rcases h with h | h
      · rw [h, List.takeWhile_cons_of_pos (by decide), List.takeWhile_append, if_neg hne]
      · rw [h, List.takeWhile_cons_of_pos (by decide), List.takeWhile_append, if_neg hne]
  obtain ⟨pad, hd, hp⟩ := key
  unfold wds
  have hl : (bare d).data.toList.length = (bare d).size := by simp
  obtain ⟨k, hk⟩ : ∃ k, (bare d).size = k + 1 := ⟨(bare d).size - 1, by rw [hd] at hl; simp at hl; omega⟩
  have e0 : stp (bare d) ((bare d).size - 0) 0 = 0 := by
    rw [hk]
    show (if blk ((bare d).data.toList.getD 0 0) = true then 0 else _) = 0
    rw [hd]
    rfl
  rw [show wdf (bare d) n ((bare d).size + 1) 0 = (if 0 < (bare d).size then (if 0 < stp (bare d) ((bare d).size - 0) 0 then [⟨(bare d).extract 0 (stp (bare d) ((bare d).size - 0) 0), n, ((0 : Nat) : Int) + 1⟩] else []) ++ wdf (bare d) n (bare d).size (stp (bare d) ((bare d).size - 0) 0 + 1) else []) from rfl]
  rw [e0, if_pos (by omega), if_neg (Nat.lt_irrefl _), List.nil_append]
  exact wdf_sh hd hp n ((bare a).size + 1) _ 0 (by omega) (by omega)
/-- The dressed text, behind its first sign. -/
def dpre : List UInt8 → List UInt8
  | [] => []
  | c :: r => (if c = 10 then e2 ++ [10, 9] else [c]) ++ dpre r
def dq : List (List UInt8) → List (List UInt8)
  | [] => []
  | [h] => [h ++ e1]
  | h :: a :: t => (h ++ e2) :: hd 9 (dq (a :: t))
theorem dq_cons (l : List (List UInt8)) : l ≠ [] → dq l ≠ [] := by
  cases l with
  | nil => exact fun h => h
  | cons a t => cases t <;> simp [dq]
theorem hd_dq (c : UInt8) (l : List (List UInt8)) (h : l ≠ []) : hd c (dq l) = dq (hd c l) := by
  cases l with
  | nil => exact absurd rfl h
  | cons a t => cases t <;> rfl
theorem sp_e2 (r : List UInt8) : sp (e2 ++ 10 :: r) = e2 :: sp r := by
  simp [e2, sp]
theorem sp_dress : ∀ (l : List UInt8), sp (dpre l ++ e1) = dq (sp l)
  | [] => by simp [dpre, sp, dq, e1]
  | c :: r => by
    have ih := sp_dress r
    obtain ⟨a, b, hab⟩ := sp_cons r
    by_cases h : c = 10
    · subst h
      rw [sp_nl, show dpre (10 :: r) ++ e1 = e2 ++ 10 :: 9 :: (dpre r ++ e1) by simp [dpre], sp_e2, sp_ne (by decide), ih, hab]
      rfl
    · rw [sp_ne h, show dpre (c :: r) ++ e1 = c :: (dpre r ++ e1) by simp [dpre, h], sp_ne h, ih, hd_dq _ _ (by rw [hab]; simp)]
theorem ls_dq : ∀ (l m : List ByteArray), m.map (·.data.toList) = hd 9 (dq (l.map (·.data.toList))) → l ≠ [] → LS l m
  | [], m, _, h => absurd rfl h
  | [a], m, h, _ => by
    have h : m.map (·.data.toList) = [9 :: (a.data.toList ++ e1)] := h
    cases m with
    | nil => cases h
    | cons x y => cases y with
      | nil =>
        injection h with h1 _
        exact ⟨fun n => wds_dress (.inl h1) n, trivial⟩
      | cons z w => injection h with _ h2; cases h2
  | a :: b :: t, m, h, _ => by
    have h : m.map (·.data.toList) = (9 :: (a.data.toList ++ e2)) :: hd 9 (dq ((b :: t).map (·.data.toList))) := h
    cases m with
    | nil => cases h
    | cons x y =>
      injection h with h1 h2
      exact ⟨fun n => wds_dress (.inr h1) n, ls_dq (b :: t) y h2 (by simp)⟩
theorem dress_main {s d : ByteArray} (hd : d.data.toList = 9 :: (dpre s.data.toList ++ e1)) (hz : d.size ≤ 4096) : s.size ≤ 4096 ∧ prsR d = shL (prsR s) := by
  have hlen : ∀ l : List UInt8, l.length ≤ (dpre l).length := fun l => by
    induction l with
    | nil => exact Nat.le_refl _
    | cons c r ih =>
      show _ ≤ ((if c = 10 then e2 ++ [10, 9] else [c]) ++ dpre r).length
      rw [List.length_append, List.length_cons]
      have : 1 ≤ (if c = 10 then e2 ++ [10, 9] else [c] : List UInt8).length := by split <;> simp [e2]
      omega
  have hs : s.size ≤ 4096 := by
    have h1 : s.data.toList.length = s.size := by simp
    have h2 : d.data.toList.length = d.size := by simp
    have h3 := hlen s.data.toList
    rw [hd, List.length_cons, List.length_append] at h2
    omega
  refine ⟨hs, prsR_sh hs hz (ls_dq _ _ ?_ ?_)⟩
  · rw [lns_sp, lns_sp, hd, sp_ne (by decide), sp_dress]
  · intro e
    have := lns_sp s
    rw [e] at this
    obtain ⟨a, b, hab⟩ := sp_cons s.data.toList
    rw [hab] at this
    cases this
theorem dpre_app (l m : List UInt8) : dpre (l ++ m) = dpre l ++ dpre m := by
  induction l with
  | nil => rfl
  | cons c r ih =>
    show (if c = 10 then e2 ++ [10, 9] else [c]) ++ dpre (r ++ m) = ((if c = 10 then e2 ++ [10, 9] else [c]) ++ dpre r) ++ dpre m
    rw [ih, List.append_assoc]
theorem dpre_one (c : UInt8) : dpre [c] = if c = 10 then e2 ++ [10, 9] else [c] := by
  show (if c = 10 then e2 ++ [10, 9] else [c]) ++ [] = _
  rw [List.append_nil]
end Go.Proofs.YtdmfkepnopppaaaGreatDoor
namespace Go.Proofs.YtdmfkepnopppaaaGreatDoor
open Go.RowKit

theorem dgt (u : Nat) (h : u < 10) : (UInt8.ofNat (48 + u)).toNat = 48 + u := by
  rw [UInt8.toNat_ofNat']; omega
theorem dec_small {u : Nat} (h : u < 10) : Lib.decDigits u = [UInt8.ofNat (48 + u)] := by rw [Lib.decDigits, dif_pos h]
theorem dec_big {u : Nat} (h : ¬ u < 10) : Lib.decDigits u = Lib.decDigits (u / 10) ++ [UInt8.ofNat (48 + u % 10)] := by rw [Lib.decDigits, dif_neg h]
theorem dig_dgt (u : Nat) (h : u < 10) : digB (UInt8.ofNat (48 + u)) = true := (digB_iff _).2 (by rw [dgt u h]; omega)
theorem dec_all (n : Nat) : ∀ u, u ≤ n → (Lib.decDigits u).all digB = true ∧ natv 0 (Lib.decDigits u) = u ∧ Lib.decDigits u ≠ [] ∧ (0 < u → ∃ e r, Lib.decDigits u = e :: r ∧ 49 ≤ e.toNat) := by
  induction n with
  | zero =>
    intro u hu
    have h0 : u = 0 := by omega
    subst h0
    rw [dec_small (by decide)]
    refine ⟨by rw [List.all_cons, dig_dgt 0 (by decide)]; rfl, by rw [natv_cons, natv_nil, dgt 0 (by decide)], by simp, fun h => absurd h (by decide)⟩
  | succ n ih =>
    intro u hu
    by_cases h : u < 10
    · rw [dec_small h]
      refine ⟨by rw [List.all_cons, dig_dgt u h]; rfl, by rw [natv_cons, natv_nil, dgt u h]; omega, by simp, fun h0 => ⟨_, [], rfl, by rw [dgt u h]; omega⟩⟩
    · obtain ⟨i1, i2, i3, i4⟩ := ih (u / 10) (by omega)
      rw [dec_big h]
      refine ⟨by rw [List.all_append, i1, List.all_cons, dig_dgt _ (by omega)]; rfl, by rw [natv_snoc, i2, dgt _ (by omega)]; omega, by simp, fun _ => ?_⟩
      obtain ⟨e, r, he, h49⟩ := i4 (by omega)
      exact ⟨e, r ++ [UInt8.ofNat (48 + u % 10)], by rw [he]; rfl, h49⟩
theorem dec_digs (u : Nat) : (Lib.decDigits u).all digB = true := (dec_all u u (Nat.le_refl _)).1
theorem dec_natv (u : Nat) : natv 0 (Lib.decDigits u) = u := (dec_all u u (Nat.le_refl _)).2.1
theorem dec_head (u : Nat) (h : 0 < u) : ∃ e r, Lib.decDigits u = e :: r ∧ 49 ≤ e.toNat := (dec_all u u (Nat.le_refl _)).2.2.2 h
theorem ofNat_toNat48 (c : UInt8) (h : 48 ≤ c.toNat) : UInt8.ofNat (48 + (c.toNat - 48)) = c := by
  rw [show 48 + (c.toNat - 48) = c.toNat by omega]; exact UInt8.ofNat_toNat
/-- Digits without a leading 0 are the number's text. -/
theorem dec_back (n : Nat) : ∀ d : List UInt8, d.length ≤ n → d.all digB = true → (∃ e r, d = e :: r ∧ 49 ≤ e.toNat) → Lib.decDigits (natv 0 d) = d := by
  induction n with
  | zero => intro d hl _ hh; obtain ⟨e, r, rfl, _⟩ := hh; simp at hl
  | succ n ih =>
    intro d hl ha hh
    obtain ⟨e, r, rfl, h49⟩ := hh
    rcases List.eq_nil_or_concat r with rfl | ⟨r', c, rfl⟩
    · rw [List.all_cons, Bool.and_eq_true] at ha
      have he := (digB_iff e).1 ha.1
      rw [natv_cons, natv_nil, show 0 * 10 + (e.toNat - 48) = e.toNat - 48 by omega, dec_small (by omega), ofNat_toNat48 e (by omega)]
    · have e1 : e :: r'.concat c = (e :: r') ++ [c] := by simp
      rw [e1] at ha hl ⊢
      rw [List.all_append, Bool.and_eq_true] at ha
      have hc : digB c = true := by simpa using ha.2
      have hc := (digB_iff c).1 hc
      have ih1 := ih (e :: r') (by simp at hl ⊢; omega) ha.1 ⟨e, r', rfl, h49⟩
      have hge := natv_ge r' (0 * 10 + (e.toNat - 48))
      rw [← natv_cons] at hge
      have hp : 1 ≤ natv 0 (e :: r') := by
        refine Nat.le_trans ?_ hge
        have : 0 < 10 ^ r'.length := Nat.pow_pos (by decide)
        exact Nat.mul_pos (by omega) this
      rw [natv_snoc, dec_big (by omega), show (natv 0 (e :: r') * 10 + (c.toNat - 48)) / 10 = natv 0 (e :: r') by omega, ih1, show (natv 0 (e :: r') * 10 + (c.toNat - 48)) % 10 = c.toNat - 48 by omega, ofNat_toNat48 c (by omega)]
theorem dec_len (u : Nat) (h : u ≤ 9223372036854775808) : 1 ≤ (Lib.decDigits u).length ∧ (Lib.decDigits u).length ≤ 19 := by
  by_cases h0 : u = 0
  · subst h0; rw [dec_small (by decide)]; simp
  · obtain ⟨e, r, he, h49⟩ := dec_head u (by omega)
    have hn := dec_natv u
    rw [he] at hn ⊢
    have hge := natv_ge r (0 * 10 + (e.toNat - 48))
    rw [← natv_cons, hn] at hge
    have h1 : 1 * 10 ^ r.length ≤ u := Nat.le_trans (Nat.mul_le_mul_right _ (by omega)) hge
    rw [List.length_cons]
    refine ⟨by omega, ?_⟩
    by_cases k : r.length ≤ 18
    · omega
    · have : 10 ^ 19 ≤ 10 ^ r.length := Nat.pow_le_pow_right (by decide) (by omega)
      have e19 : (10 : Nat) ^ 19 = 10000000000000000000 := rfl
      omega

/-! A number's text. -/
theorem itoa_neg' {n : Int} (h : n < 0) : Lib.itoa n = 45 :: Lib.decDigits n.natAbs := by unfold Lib.itoa; rw [if_pos h]
theorem itoa_pos' {n : Int} (h : ¬ n < 0) : Lib.itoa n = Lib.decDigits n.natAbs := by unfold Lib.itoa; rw [if_neg h]; congr 1; omega
theorem form_dec_neg (u : Nat) (h : 0 < u) : numForm (45 :: Lib.decDigits u) = true := by
  obtain ⟨e, r, he, h49⟩ := dec_head u h
  have hd := dec_digs u
  rw [he] at hd ⊢
  rw [numForm_cons, if_pos (by decide)]
  simp only
  rw [if_neg (by omega)]; exact hd
theorem form_dec (u : Nat) : numForm (Lib.decDigits u) = true ∧ neg? (Lib.decDigits u) = false ∧ digs (Lib.decDigits u) = Lib.decDigits u := by
  by_cases h : 0 < u
  · obtain ⟨e, r, he, h49⟩ := dec_head u h
    have hd := dec_digs u
    rw [he] at hd ⊢
    have h5 := hd
    rw [List.all_cons, Bool.and_eq_true] at h5
    have h6 := (digB_iff e).1 h5.1
    refine ⟨?_, ?_, ?_⟩
    · rw [numForm_cons, if_neg (by omega), if_neg (by omega)]; exact hd
    · show decide (e.toNat = 45) = false
      simp; omega
    · show (if e.toNat = 45 then r else e :: r) = e :: r
      rw [if_neg (by omega)]
  · have h0 : u = 0 := by omega
    subst h0
    rw [dec_small (by decide)]
    exact ⟨by decide, by decide, by decide⟩
theorem round_to (n : Int) (h : In64 n) : prsV (Lib.itoa n) = n ∧ prsE (Lib.itoa n) = 0 ∧ 1 ≤ (Lib.itoa n).length ∧ (Lib.itoa n).length ≤ 20 := by
  unfold In64 at h
  by_cases hn : n < 0
  · rw [itoa_neg' hn]
    have hl := dec_len n.natAbs (by omega)
    have hf := form_dec_neg n.natAbs (by omega)
    have hg : neg? (45 :: Lib.decDigits n.natAbs) = true := by show decide ((45 : UInt8).toNat = 45) = true; decide
    have hd : digs (45 :: Lib.decDigits n.natAbs) = Lib.decDigits n.natAbs := by
      show (if (45 : UInt8).toNat = 45 then Lib.decDigits n.natAbs else 45 :: Lib.decDigits n.natAbs) = _; rw [if_pos (by decide)]
    have hv := dec_natv n.natAbs
    refine ⟨?_, ?_, by rw [List.length_cons]; omega, by rw [List.length_cons]; omega⟩
    · unfold prsV lim
      rw [hf, hg, hd, hv, if_pos ⟨rfl, by simp; omega⟩]
      simp; omega
    · unfold prsE lim
      rw [hf, hg, hd, hv, if_pos rfl, if_pos (by simp; omega)]
  · rw [itoa_pos' hn]
    have hl := dec_len n.natAbs (by omega)
    obtain ⟨hf, hg, hd⟩ := form_dec n.natAbs
    have hv := dec_natv n.natAbs
    refine ⟨?_, ?_, hl.1, by omega⟩
    · unfold prsV lim
      rw [hf, hg, hd, hv, if_pos ⟨rfl, by simp; omega⟩]
      simp; omega
    · unfold prsE lim
      rw [hf, hg, hd, hv, if_pos rfl, if_pos (by simp; omega)]
theorem round_from {l : List UInt8} (h : prsE l = 0) : Lib.itoa (prsV l) = l ∧ In64 (prsV l) := by
  unfold prsE at h
  by_cases hf : numForm l = true
  · rw [if_pos hf] at h
    by_cases hl : natv 0 (digs l) ≤ lim l
    · obtain ⟨h1, h2, h3, h4⟩ := form_digs hf
      have hV : prsV l = if neg? l then -((natv 0 (digs l) : Nat) : Int) else ((natv 0 (digs l) : Nat) : Int) := by unfold prsV; rw [if_pos ⟨hf, hl⟩]
      have hL : lim l = if neg? l then 9223372036854775808 else 9223372036854775807 := rfl
      rw [hV]
      have back : ∀ e r, digs l = e :: r → 49 ≤ e.toNat → Lib.decDigits (natv 0 (digs l)) = digs l ∧ 0 < natv 0 (digs l) := by
        intro e r he h49
        refine ⟨dec_back _ _ (Nat.le_refl _) h1 ⟨e, r, he, h49⟩, ?_⟩
        rw [he]
        have hge := natv_ge r (0 * 10 + (e.toNat - 48))
        rw [← natv_cons] at hge
        have : 0 < 10 ^ r.length := Nat.pow_pos (by decide)
        exact Nat.lt_of_lt_of_le (Nat.mul_pos (by omega) this) hge
      cases hn : neg? l
      · rw [hn] at hL
        simp only [Bool.false_eq_true, if_false] at hL ⊢
        have hd : digs l = l := by
          cases l with
          | nil => rfl
          | cons c r =>
            have : decide (c.toNat = 45) = false := hn
            show (if c.toNat = 45 then r else c :: r) = c :: r
            rw [if_neg (by simpa using this)]
        refine ⟨?_, by unfold In64; omega⟩
        rw [itoa_pos' (by omega), Int.natAbs_natCast]
        rcases h3 with h3 | ⟨e, r, he, h49⟩
        · rw [h3, natv_cons, natv_nil, ← hd, h3]
          exact dec_small (by decide)
        · rw [(back e r he h49).1, hd]
      · rw [hn] at hL
        simp only [if_true] at hL ⊢
        obtain ⟨e, r, he, h49⟩ := h4 hn
        obtain ⟨b1, b2⟩ := back e r he h49
        refine ⟨?_, by unfold In64; omega⟩
        rw [itoa_neg' (by omega), Int.natAbs_neg, Int.natAbs_natCast, b1]
        cases l with
        | nil => cases hn
        | cons c r =>
          have hc : c.toNat = 45 := of_decide_eq_true hn
          have hcc : c = 45 := UInt8.toNat_inj.1 hc
          show (45 : UInt8) :: (if c.toNat = 45 then r else c :: r) = c :: r
          rw [if_pos hc, hcc]
    · rw [if_neg hl] at h; cases h
  · rw [if_neg hf] at h; cases h
theorem round_else {l : List UInt8} (h : prsE l ≠ 0) : prsV l = 0 ∧ (prsE l = 12 ∨ prsE l = 13) := by
  by_cases hf : numForm l = true
  · by_cases hl : natv 0 (digs l) ≤ lim l
    · exact absurd (prs_ok hf hl) h
    · obtain ⟨a, b⟩ := prs_range hf hl
      exact ⟨a, .inr b⟩
  · obtain ⟨a, b⟩ := prs_bad (by simpa using hf)
    exact ⟨a, .inl b⟩
theorem one_minus {n : Int} (h : n < 0) : prsV (49 :: Lib.itoa n) = 0 ∧ prsE (49 :: Lib.itoa n) = 12 := by
  refine prs_bad ?_
  rw [itoa_neg' h, numForm_cons, if_neg (by decide), if_neg (by decide)]
  rfl
end Go.Proofs.YtdmfkepnopppaaaGreatDoor
namespace Go.Proofs.YtdmfkepnopppaaaGreatDoor
open Go.RowKit
/-- An operand's text. -/
def srcT (r : Bool) (n : Int) : List UInt8 := if r then 114 :: Lib.itoa n else Lib.itoa n
/-- A slot's word; lb: the labels, by their places. -/
def tldT (q : Ins) (lb : Nat → List UInt8) (s : Int) : List UInt8 := if s = 1 then srcT true q.dst else if s = 2 then 64 :: srcT q.oR q.oN else if s = 3 then srcT q.xR q.xN else if s = 4 then srcT q.yR q.yN else if s = 5 then (relT q.rel.toNat).data.toList else lb q.to.toNat
/-- An instruction's own word. -/
def nmT (q : Ins) : List UInt8 := if q.code = 6 then (opT q.op.toNat).data.toList else (shT q.code.toNat).data.toList
def wrdsT (q : Ins) (lb : Nat → List UInt8) : List (List UInt8) := nmT q :: (slo q.code.toNat).map (tldT q lb)
def lineT (q : Ins) (lb : Nat → List UInt8) : List UInt8 := Lib.join (wrdsT q lb) [32]
/-- The labels of the first k places that are jumped to. -/
def lbk (T : List Int) : Nat → Nat → List UInt8
  | 0 => fun _ => []
  | k + 1 => fun p => if (p : Int) = T.getD k 0 then 108 :: Lib.itoa (k : Int) else lbk T k p
/-- A place's lines. -/
def pcT (l : List Ins) (lb : Nat → List UInt8) (p : Nat) : List UInt8 := (if lb p = [] then [] else lb p ++ [58, 10]) ++ (if p < l.length then lineT (l.getD p ins0) lb ++ [10] else [])
def prnK (l : List Ins) (lb : Nat → List UInt8) (k : Nat) : List UInt8 := (List.range k).flatMap (pcT l lb)
def tgs (l : List Ins) : List Int := (l.filter (fun q => kdL q.code)).map (·.to)
def tgS (l : List Ins) : List Int := Lib.compact ((tgs l).mergeSort fun x y => decide (x ≤ y))
def lbT (l : List Ins) : Nat → List UInt8 := lbk (tgS l) (tgS l).length
/-- A program's text. -/
def prn (l : List Ins) : List UInt8 := prnK l (lbT l) (l.length + 1)
/-- A number that fits. -/
def n64 (q : Ins) : Prop := In64 q.oN ∧ In64 q.xN ∧ In64 q.yN
/-- A word: no blank, no sign of a remark, no colon, no line's end. -/
def gw (w : List UInt8) : Prop := w ≠ [] ∧ ∀ c ∈ w, c ≠ 10 ∧ c ≠ 32 ∧ c ≠ 9 ∧ c ≠ 35 ∧ c ≠ 58
theorem itoa_ch (n : Int) : Lib.itoa n ≠ [] ∧ ∀ c ∈ Lib.itoa n, c = 45 ∨ digB c = true := by
  by_cases h : n < 0
  · rw [itoa_neg' h]
    refine ⟨by simp, fun c hc => ?_⟩
    rcases List.mem_cons.1 hc with rfl | hc
    · exact .inl rfl
    · exact .inr (List.all_eq_true.1 (dec_digs _) c hc)
  · rw [itoa_pos' h]
    exact ⟨(dec_all _ _ (Nat.le_refl _)).2.2.1, fun c hc => .inr (List.all_eq_true.1 (dec_digs _) c hc)⟩
theorem ch_ne {c : UInt8} (h : c = 45 ∨ digB c = true) : c ≠ 10 ∧ c ≠ 32 ∧ c ≠ 9 ∧ c ≠ 35 ∧ c ≠ 58 ∧ c ≠ 114 ∧ c ≠ 64 ∧ c ≠ 108 := by
  rcases h with rfl | h
  · decide
  · rw [digB_iff] at h
    refine ⟨?_, ?_, ?_, ?_, ?_, ?_, ?_, ?_⟩ <;> (rintro rfl; revert h; decide)
theorem gw_itoa (n : Int) : gw (Lib.itoa n) := ⟨(itoa_ch n).1, fun c hc => by have := ch_ne ((itoa_ch n).2 c hc); exact ⟨this.1, this.2.1, this.2.2.1, this.2.2.2.1, this.2.2.2.2.1⟩⟩
theorem gw_cons {a : UInt8} {w : List UInt8} (ha : a ≠ 10 ∧ a ≠ 32 ∧ a ≠ 9 ∧ a ≠ 35 ∧ a ≠ 58) (h : gw w) : gw (a :: w) := ⟨by simp, fun c hc => by
  rcases List.mem_cons.1 hc with rfl | hc
  · exact ha
  · exact h.2 c hc⟩
theorem gw_src (r : Bool) (n : Int) : gw (srcT r n) := by
  unfold srcT
  cases r
  · exact gw_itoa n
  · exact gw_cons (by decide) (gw_itoa n)
instance (w : List UInt8) : Decidable (gw w) := by unfold gw; infer_instance
theorem gw_rel {r : Int} (h : isRel r = true) : gw (relT r.toNat).data.toList ∧ look relT (relT r.toNat) 1 6 = r.toNat ∧ 1 ≤ r.toNat ∧ r.toNat ≤ 6 := by
  unfold isRel at h
  simp at h
  obtain ⟨k, rfl⟩ : ∃ k : Nat, r = k := ⟨r.toNat, by omega⟩
  rw [Int.toNat_natCast]
  rcases (by omega : k = 1 ∨ k = 2 ∨ k = 3 ∨ k = 4 ∨ k = 5 ∨ k = 6) with rfl | rfl | rfl | rfl | rfl | rfl <;> decide +kernel
theorem gw_op {r : Int} (h : isOp r = true) : gw (opT r.toNat).data.toList ∧ look opT (opT r.toNat) 1 12 = r.toNat ∧ 1 ≤ r.toNat ∧ r.toNat ≤ 12 := by
  unfold isOp at h
  simp at h
  obtain ⟨k, rfl⟩ : ∃ k : Nat, r = k := ⟨r.toNat, by omega⟩
  rw [Int.toNat_natCast]
  rcases (by omega : k = 1 ∨ k = 2 ∨ k = 3 ∨ k = 4 ∨ k = 5 ∨ k = 6 ∨ k = 7 ∨ k = 8 ∨ k = 9 ∨ k = 10 ∨ k = 11 ∨ k = 12) with rfl | rfl | rfl | rfl | rfl | rfl | rfl | rfl | rfl | rfl | rfl | rfl <;> decide +kernel
theorem gw_sh {k : Nat} (h1 : 1 ≤ k) (h2 : k ≤ 10) (h6 : k ≠ 6) : gw (shT k).data.toList ∧ look opT (shT k) 1 12 = 0 ∧ look shT (shT k) 1 10 = k := by
  rcases (by omega : k = 1 ∨ k = 2 ∨ k = 3 ∨ k = 4 ∨ k = 5 ∨ k = 7 ∨ k = 8 ∨ k = 9 ∨ k = 10) with rfl | rfl | rfl | rfl | rfl | rfl | rfl | rfl | rfl <;> decide +kernel
/-- A word that is read. -/
theorem ba_tl (l : List UInt8) : (⟨l.toArray⟩ : ByteArray).toList = l := by
  rw [ByteArray.toList_eq]
theorem tp_cons (c : UInt8) (l : List UInt8) : tp ⟨(c :: l).toArray⟩ c = ⟨l.toArray⟩ := by
  unfold tp Lib.trimPrefix Lib.hasPrefix
  simp [List.isPrefixOf]
theorem hp_cons (c d : UInt8) (l : List UInt8) : hp ⟨(c :: l).toArray⟩ d = (d == c) := by
  unfold hp Lib.hasPrefix
  simp [List.isPrefixOf]
theorem reg_src {n : Int} (h : rg n = true) : regB ⟨(srcT true n).toArray⟩ = true ∧ regN ⟨(srcT true n).toArray⟩ = n := by
  have h' := h
  unfold rg at h'
  simp at h'
  have hr := round_to n ⟨by omega, by omega⟩
  have e : regN ⟨(srcT true n).toArray⟩ = n := by
    unfold regN srcT
    rw [if_pos rfl, tp_cons, ba_tl]
    exact hr.1
  refine ⟨?_, e⟩
  unfold regB
  rw [e, h]
  unfold srcT
  rw [if_pos rfl, tp_cons, hp_cons, ba_tl, hr.2.1]
  rfl
theorem reg_itoa (n : Int) : regB ⟨(Lib.itoa n).toArray⟩ = false := by
  obtain ⟨h1, h2⟩ := itoa_ch n
  cases e : Lib.itoa n with
  | nil => exact absurd e h1
  | cons c r =>
    have := (ch_ne (h2 c (by rw [e]; simp))).2.2.2.2.2.1
    unfold regB
    rw [hp_cons]
    have : ((114 : UInt8) == c) = false := by simpa using Ne.symm this
    rw [this]
    rfl
theorem src_src {r : Bool} {n : Int} (h : opk r n = true) (hn : In64 n) : src ⟨(srcT r n).toArray⟩ = some (r, n) := by
  unfold src
  cases r with
  | true =>
    have h' : rg n = true := by simpa [opk] using h
    rw [if_pos (reg_src h').1, (reg_src h').2]
  | false =>
    have hr := round_to n hn
    have e : srcT false n = Lib.itoa n := rfl
    rw [e, reg_itoa, ba_tl, hr.2.1, hr.1]
    rfl
theorem obj_src {r : Bool} {n : Int} (h : opk r n = true) (hn : In64 n) : objO ⟨(64 :: srcT r n).toArray⟩ = some (r, n) := by
  unfold objO
  rw [hp_cons, tp_cons, src_src h hn]
  rfl
end Go.Proofs.YtdmfkepnopppaaaGreatDoor
namespace Go.Proofs.YtdmfkepnopppaaaGreatDoor
open Go.RowKit
/-! A line's words. -/
theorem stp_word {d : ByteArray} {pre w post : List UInt8} (hd : d.data.toList = pre ++ (w ++ post)) (hw : ∀ c ∈ w, blk c = false) (hp : post = [] ∨ ∃ c r, post = c :: r ∧ blk c = true) : stp d (d.size - pre.length) pre.length = pre.length + w.length := by
  have hl : d.data.toList.length = d.size := by simp
  have hs : d.size = pre.length + w.length + post.length := by rw [← hl, hd]; simp; omega
  have key : ∀ (n j : Nat), j + n = w.length + post.length → j ≤ w.length → stp d n (pre.length + j) = pre.length + w.length := by
    intro n
    induction n with
    | zero => intro j h1 h2; show pre.length + j = _; omega
    | succ n ih =>
      intro j h1 h2
      unfold stp
      have hg : d.data.toList.getD (pre.length + j) 0 = (w ++ post).getD j 0 := by
        rw [hd, List.getD_eq_getElem?_getD, List.getElem?_append_right (by omega), Nat.add_sub_cancel_left, List.getD_eq_getElem?_getD]
      rw [hg]
      by_cases e : j < w.length
      · have : (w ++ post).getD j 0 = w[j] := by
          rw [List.getD_eq_getElem?_getD, List.getElem?_append_left e, List.getElem?_eq_getElem e]; rfl
        rw [this, hw _ (List.getElem_mem e), if_neg (by decide), show pre.length + j + 1 = pre.length + (j + 1) by omega]
        exact ih (j + 1) (by omega) (by omega)
      · have hj : j = w.length := by omega
        rcases hp with rfl | ⟨c, r, rfl, hc⟩
        · simp at h1; omega
        · have : (w ++ c :: r).getD j 0 = c := by
            rw [List.getD_eq_getElem?_getD, List.getElem?_append_right (by omega), hj, Nat.sub_self]; rfl
          rw [this, hc, if_pos rfl, hj]
  have := key (d.size - pre.length) 0 (by omega) (by omega)
  rwa [Nat.add_zero] at this
theorem ext_word {d : ByteArray} {pre w post : List UInt8} (hd : d.data.toList = pre ++ (w ++ post)) : d.extract pre.length (pre.length + w.length) = ⟨w.toArray⟩ := by
  have e : (d.extract pre.length (pre.length + w.length)).data.toList = w := by
    rw [ByteArray.data_extract, Array.toList_extract, hd, List.extract_eq_take_drop, List.drop_left, Nat.add_sub_cancel_left, List.take_left]
  exact ba_ext (by rw [e])
theorem wdf_join {d : ByteArray} (num : Int) : ∀ (ws : List (List UInt8)) (pre : List UInt8) (n : Nat), (∀ w ∈ ws, w ≠ [] ∧ ∀ c ∈ w, blk c = false) → d.data.toList = pre ++ Lib.join ws [32] → d.size < n + pre.length → (wdf d num n pre.length).map (·.t) = ws.map (fun w => ⟨w.toArray⟩)
  | [], pre, n, _, hd, hn => by
    have hl : d.data.toList.length = d.size := by simp
    have : d.size = pre.length := by rw [← hl, hd, Lib.join_nil]; simp
    cases n with
    | zero => rfl
    | succ n => unfold wdf; rw [if_neg (by omega)]; rfl
  | [w], pre, n, hw, hd, hn => by
    have hl : d.data.toList.length = d.size := by simp
    rw [Lib.join_one] at hd
    have h1 := hw w (by simp)
    have hwl : 0 < w.length := List.length_pos_iff.2 h1.1
    have hs : d.size = pre.length + w.length := by rw [← hl, hd]; simp
    have hd' : d.data.toList = pre ++ (w ++ []) := by rw [hd, List.append_nil]
    obtain ⟨n, rfl⟩ : ∃ m, n = m + 1 := ⟨n - 1, by omega⟩
    unfold wdf
    rw [if_pos (by omega), stp_word hd' h1.2 (.inl rfl), if_pos (by omega), ext_word hd', List.map_append]
    have : wdf d num n (pre.length + w.length + 1) = [] := by
      cases n with
      | zero => rfl
      | succ n => unfold wdf; rw [if_neg (by omega)]
    rw [this]
    rfl
  | w :: v :: r, pre, n, hw, hd, hn => by
    have hl : d.data.toList.length = d.size := by simp
    have e : Lib.join (w :: v :: r) [32] = w ++ (32 :: Lib.join (v :: r) [32]) := by
      rw [Lib.join_cons, Lib.join_cons]; simp [Lib.joinTail]
    rw [e] at hd
    have h1 := hw w (by simp)
    have hwl : 0 < w.length := List.length_pos_iff.2 h1.1
    have hs : d.size = pre.length + w.length + 1 + (Lib.join (v :: r) [32]).length := by rw [← hl, hd]; simp; omega
    obtain ⟨n, rfl⟩ : ∃ m, n = m + 1 := ⟨n - 1, by omega⟩
    unfold wdf
    rw [if_pos (by omega), stp_word hd h1.2 (.inr ⟨32, _, rfl, by decide⟩), if_pos (by omega), ext_word hd, List.map_append]
    have i := wdf_join num (v :: r) (pre ++ w ++ [32]) n (fun x hx => hw x (by simp at hx ⊢; exact .inr hx)) (by rw [hd]; simp) (by simp; omega)
    have el : (pre ++ w ++ [32]).length = pre.length + w.length + 1 := by simp; omega
    rw [el] at i
    rw [i]
    rfl
theorem gw_blk {w : List UInt8} (h : gw w) : w ≠ [] ∧ ∀ c ∈ w, blk c = false := ⟨h.1, fun c hc => by
  obtain ⟨_, h2, h3, _⟩ := h.2 c hc
  unfold blk
  have a1 : (c.toNat == 32) = false := by
    rw [beq_eq_false_iff_ne]; intro e; exact h2 (UInt8.toNat_inj.1 e)
  have a2 : (c.toNat == 9) = false := by
    rw [beq_eq_false_iff_ne]; intro e; exact h3 (UInt8.toNat_inj.1 e)
  rw [a1, a2]; rfl⟩
theorem join_mem {ws : List (List UInt8)} {c : UInt8} (h : c ∈ Lib.join ws [32]) : c = 32 ∨ ∃ w ∈ ws, c ∈ w := by
  cases ws with
  | nil => rw [Lib.join_nil] at h; cases h
  | cons w r =>
    rw [Lib.join_cons] at h
    rcases List.mem_append.1 h with h | h
    · exact .inr ⟨w, by simp, h⟩
    · unfold Lib.joinTail at h
      obtain ⟨x, hx, hc⟩ := List.mem_flatten.1 h
      obtain ⟨y, hy, rfl⟩ := List.mem_map.1 hx
      rcases List.mem_append.1 hc with hc | hc
      · exact .inl (by simpa using hc)
      · exact .inr ⟨y, by simp [hy], hc⟩
theorem bare_of {l : List UInt8} (h : ∀ c ∈ l, c ≠ 35) : bare ⟨l.toArray⟩ = ⟨l.toArray⟩ := by
  unfold bare
  have : (Lib.cut l [35]).1 = l := by rw [cut_tw, (tw_self l).2 (fun c hc => by simpa using h c hc)]
  show (⟨(Lib.cut l [35]).1.toArray⟩ : ByteArray) = _
  rw [this]
/-- The words of a line of words. -/
theorem wds_join (ws : List (List UInt8)) (num : Int) (h : ∀ w ∈ ws, (w ≠ [] ∧ ∀ c ∈ w, blk c = false) ∧ ∀ c ∈ w, c ≠ 35) : (wds ⟨(Lib.join ws [32]).toArray⟩ num).map (·.t) = ws.map (fun w => ⟨w.toArray⟩) := by
  unfold wds
  rw [bare_of (fun c hc => by
    rcases join_mem hc with rfl | ⟨w, hw, hc⟩
    · decide
    · exact (h w hw).2 c hc)]
  have := wdf_join (d := ⟨(Lib.join ws [32]).toArray⟩) num ws [] ((⟨(Lib.join ws [32]).toArray⟩ : ByteArray).size + 1) (fun w hw => (h w hw).1) (by simp) (by simp)
  exact this
/-! A text's lines. -/
theorem sp_line : ∀ (x y : List UInt8), (∀ c ∈ x, c ≠ 10) → sp (x ++ 10 :: y) = x :: sp y
  | [], y, _ => sp_nl y
  | c :: x, y, h => by
    rw [List.cons_append, sp_ne (h c (by simp)), sp_line x y (fun d hd => h d (by simp [hd]))]
    rfl
/-! What an instruction's line comes to. -/
theorem fls_step {u u' : Ins} {s : Int} {ss : List Int} {pv p : Pc} {ps acc : List Pc} (h6 : s ≠ 6) (h : fil u s p.t = some u') : fls u (s :: ss) pv (p :: ps) acc = fls u' ss p ps acc := by
  rw [fls, if_neg h6, h]
theorem fls_jump {u : Ins} {ss : List Int} {pv p : Pc} {ps acc : List Pc} (h : nmB p.t = true) : fls u (6 :: ss) pv (p :: ps) acc = fls u ss p ps (acc ++ [p]) := by
  rw [fls, if_pos rfl, if_pos h]
theorem fil1 {q u : Ins} (lb : Nat → List UInt8) (h : rg q.dst = true) : fil u 1 ⟨(tldT q lb 1).toArray⟩ = some { u with dst := q.dst } := by
  have e : tldT q lb 1 = srcT true q.dst := rfl
  unfold fil
  rw [e, if_pos rfl, if_pos (reg_src h).1, (reg_src h).2]
theorem fil2 {q u : Ins} (lb : Nat → List UInt8) (h : opk q.oR q.oN = true) (hn : In64 q.oN) : fil u 2 ⟨(tldT q lb 2).toArray⟩ = some { u with oR := q.oR, oN := q.oN } := by
  have e : tldT q lb 2 = 64 :: srcT q.oR q.oN := rfl
  unfold fil
  rw [e, if_neg (by decide), if_pos rfl, obj_src h hn]
  rfl
theorem fil3 {q u : Ins} (lb : Nat → List UInt8) (h : opk q.xR q.xN = true) (hn : In64 q.xN) : fil u 3 ⟨(tldT q lb 3).toArray⟩ = some { u with xR := q.xR, xN := q.xN } := by
  have e : tldT q lb 3 = srcT q.xR q.xN := rfl
  unfold fil
  rw [e, if_neg (by decide), if_neg (by decide), if_pos rfl, src_src h hn]
  rfl
theorem fil4 {q u : Ins} (lb : Nat → List UInt8) (h : opk q.yR q.yN = true) (hn : In64 q.yN) : fil u 4 ⟨(tldT q lb 4).toArray⟩ = some { u with yR := q.yR, yN := q.yN } := by
  have e : tldT q lb 4 = srcT q.yR q.yN := rfl
  unfold fil
  rw [e, if_neg (by decide), if_neg (by decide), if_neg (by decide), if_pos rfl, src_src h hn]
  rfl
theorem fil5 {q u : Ins} (lb : Nat → List UInt8) (h : isRel q.rel = true) : fil u 5 ⟨(tldT q lb 5).toArray⟩ = some { u with rel := q.rel } := by
  have e : tldT q lb 5 = (relT q.rel.toNat).data.toList := rfl
  obtain ⟨_, h2, h3, h4⟩ := gw_rel h
  have e2 : (⟨(relT q.rel.toNat).data.toList.toArray⟩ : ByteArray) = relT q.rel.toNat := by cases relT q.rel.toNat; simp
  unfold fil
  rw [e, e2, if_neg (by decide), if_neg (by decide), if_neg (by decide), if_neg (by decide), if_pos rfl, h2, if_pos (by omega)]
  have : ((q.rel.toNat : Nat) : Int) = q.rel := by omega
  rw [this]
/-- What the line's words come to; the label's word is found later. -/
def zt (q : Ins) : Ins := { q with to := 0 }
theorem nmd_of {q : Ins} {n : Int} {c : Nat} (hc : q.code = (c : Int)) (h : 1 ≤ c ∧ c ≤ 10) (hq : q.cab n c = true) : nmd ⟨(nmT q).toArray⟩ = some { ins0 with code := q.code, op := if c = 6 then q.op else 0 } ∧ gw (nmT q) := by
  unfold nmT nmd
  by_cases h6 : c = 6
  · subst h6
    have ho : isOp q.op = true := by
      unfold Ins.cab at hq
      simp at hq
      exact hq.1.1
    obtain ⟨h1, h2, h3, h4⟩ := gw_op ho
    have e2 : (⟨(opT q.op.toNat).data.toList.toArray⟩ : ByteArray) = opT q.op.toNat := by cases opT q.op.toNat; simp
    have hc6 : q.code = 6 := hc
    rw [if_pos hc6, e2, h2, if_pos (by omega), if_pos rfl]
    have : ((q.op.toNat : Nat) : Int) = q.op := by omega
    rw [this, hc6]
    exact ⟨rfl, h1⟩
  · obtain ⟨h1, h2, h3⟩ := gw_sh h.1 h.2 h6
    have e2 : (⟨(shT c).data.toList.toArray⟩ : ByteArray) = shT c := by cases shT c; simp
    have e3 : q.code.toNat = c := by omega
    have h6' : ¬ q.code = 6 := by omega
    rw [if_neg h6', e3, e2, h2, if_neg (by simp), h3, if_pos (by omega), if_neg h6, hc]
    exact ⟨rfl, h1⟩
end Go.Proofs.YtdmfkepnopppaaaGreatDoor
namespace Go.Proofs.YtdmfkepnopppaaaGreatDoor
open Go.RowKit
theorem fil_lay {q u : Ins} (lb : Nat → List UInt8) {n s : Int} (hs : 1 ≤ s ∧ s ≤ 5) (h : q.oks n s = true) (hn : n64 q) : fil u s ⟨(tldT q lb s).toArray⟩ = some (u.lay q s) := by
  rcases (by omega : s = 1 ∨ s = 2 ∨ s = 3 ∨ s = 4 ∨ s = 5) with rfl | rfl | rfl | rfl | rfl
  · exact fil1 lb h
  · exact fil2 lb h hn.1
  · exact fil3 lb h hn.2.1
  · exact fil4 lb h hn.2.2
  · exact fil5 lb h
/-- What is filled in, the jump's place left out. -/
def Ins.layz (u q : Ins) (l : List Int) : Ins := l.foldl (fun u s => if s = 6 then u else u.lay q s) u
theorem fls_lays {q : Ins} (lb : Nat → List UInt8) {n : Int} (hn : n64 q) : ∀ (ss : List Int) (u : Ins) (pv : Pc) (ps acc : List Pc), (∀ s ∈ ss, (1 ≤ s ∧ s ≤ 6) ∧ q.oks n s = true) → ps.map (·.t) = ss.map (fun s => (⟨(tldT q lb s).toArray⟩ : ByteArray)) → (6 ∈ ss → nmB ⟨(lb q.to.toNat).toArray⟩ = true) →
    ∃ ps', fls u ss pv ps acc = .ok (u.layz q ss, ps') ∧ ps'.map (·.t) = acc.map (·.t) ++ (ss.filter (fun s => s = 6)).map (fun _ => (⟨(lb q.to.toNat).toArray⟩ : ByteArray))
  | [], u, pv, ps, acc, _, hp, _ => by
    cases ps with
    | nil => exact ⟨acc, rfl, by simp⟩
    | cons p r => simp at hp
  | s :: ss, u, pv, ps, acc, hs, hp, h6 => by
    cases ps with
    | nil => simp at hp
    | cons p r =>
      simp only [List.map_cons, List.cons.injEq] at hp
      have h1 := hs s (by simp)
      by_cases e : s = 6
      · subst e
        have et : tldT q lb 6 = lb q.to.toNat := rfl
        rw [et] at hp
        have hnm := h6 (by simp)
        rw [fls_jump (by rw [hp.1]; exact hnm)]
        obtain ⟨ps', e1, e2⟩ := fls_lays lb hn ss u p r (acc ++ [p]) (fun x hx => hs x (by simp [hx])) hp.2 (fun _ => hnm)
        refine ⟨ps', e1, ?_⟩
        rw [e2]
        simp [hp.1]
      · rw [fls_step e (by rw [hp.1]; exact fil_lay lb (by omega) h1.2 hn)]
        obtain ⟨ps', e1, e2⟩ := fls_lays lb hn ss (u.lay q s) p r acc (fun x hx => hs x (by simp [hx])) hp.2 (fun h => h6 (by simp [h]))
        refine ⟨ps', ?_, ?_⟩
        · rw [e1]
          show _ = Except.ok (Ins.layz u q (s :: ss), ps')
          unfold Ins.layz
          rw [List.foldl_cons, if_neg e]
        · rw [e2, List.filter_cons_of_neg (by simpa using e)]
theorem lay_zt (u q : Ins) (s : Int) (hs : 1 ≤ s ∧ s ≤ 6) : zt (u.lay q s) = if s = 6 then zt u else (zt u).lay q s := by
  rcases (by omega : s = 1 ∨ s = 2 ∨ s = 3 ∨ s = 4 ∨ s = 5 ∨ s = 6) with rfl | rfl | rfl | rfl | rfl | rfl <;> rfl
theorem lays_zt (q : Ins) : ∀ (ss : List Int) (u : Ins), (∀ s ∈ ss, 1 ≤ s ∧ s ≤ 6) → zt (u.lays q ss) = (zt u).layz q ss
  | [], u, _ => rfl
  | s :: ss, u, h => by
    have e := lays_zt q ss (u.lay q s) (fun x hx => h x (by simp [hx]))
    show zt ((u.lay q s).lays q ss) = ((if s = 6 then zt u else (zt u).lay q s)).layz q ss
    rw [e, lay_zt u q s (h s (by simp))]
theorem eqI_eq {u q : Ins} (h : eqI u q = true) : u = q := by
  obtain ⟨a0, a1, a2, a3, a4, a5, a6, a7, a8, a9, a10⟩ := u
  obtain ⟨b0, b1, b2, b3, b4, b5, b6, b7, b8, b9, b10⟩ := q
  unfold eqI at h
  simp at h
  simp [h]
theorem slo_in {c : Nat} (h : 1 ≤ c ∧ c ≤ 10) : (∀ s ∈ slo c, 1 ≤ s ∧ s ≤ 6) ∧ (slo c).filter (fun s => s = 6) = if kdL (c : Int) = true then [6] else [] := by
  rcases (by omega : c = 1 ∨ c = 2 ∨ c = 3 ∨ c = 4 ∨ c = 5 ∨ c = 6 ∨ c = 7 ∨ c = 8 ∨ c = 9 ∨ c = 10) with rfl | rfl | rfl | rfl | rfl | rfl | rfl | rfl | rfl | rfl <;> decide
/-- A program's line, read: its instruction, but for the jump's place, and the jump's word. -/
theorem ins_line {q : Ins} {n : Int} {c : Nat} (hc : q.code = (c : Int)) (h : 1 ≤ c ∧ c ≤ 10) (hq : q.cab n c = true) (hn : n64 q) (lb : Nat → List UInt8) (hlb : kdL q.code = true → nmB ⟨(lb q.to.toNat).toArray⟩ = true) {m : Nat} (hm : m ≠ 64) {ws : List Pc} (hw : ws.map (·.t) = (wrdsT q lb).map (fun w => (⟨w.toArray⟩ : ByteArray))) :
    ∃ ps, insR m ws = .ok (zt q, ps) ∧ ps.map (·.t) = if kdL q.code = true then [(⟨(lb q.to.toNat).toArray⟩ : ByteArray)] else [] := by
  have hct : q.code.toNat = c := by omega
  unfold wrdsT at hw
  rw [hct] at hw
  cases ws with
  | nil => simp at hw
  | cons p r =>
    simp only [List.map_cons, List.cons.injEq, List.map_map] at hw
    have hnm := (nmd_of hc h hq).1
    rw [← hw.1] at hnm
    have hsl := slo_in h
    have hok : (slo c).all (q.oks n) = true := by
      unfold Ins.cab at hq
      simp only [Bool.and_eq_true] at hq
      exact hq.1.2
    have heq : ({ ins0 with code := q.code, op := if c = 6 then q.op else 0 } : Ins).lays q (slo c) = q := by
      unfold Ins.cab at hq
      simp only [Bool.and_eq_true] at hq
      exact eqI_eq hq.2
    have h6 : 6 ∈ slo c → nmB ⟨(lb q.to.toNat).toArray⟩ = true := fun h6 => by
      refine hlb ?_
      have : 6 ∈ (slo c).filter (fun s => s = 6) := by simpa using h6
      rw [hsl.2] at this
      rw [hc]
      by_cases e : kdL (c : Int) = true
      · exact e
      · rw [if_neg e] at this; cases this
    obtain ⟨ps, e1, e2⟩ := fls_lays lb hn (slo c) { ins0 with code := q.code, op := if c = 6 then q.op else 0 } p r [] (fun s hs => ⟨hsl.1 s hs, List.all_eq_true.1 hok s hs⟩) (by rw [hw.2]; rfl) h6
    refine ⟨ps, ?_, ?_⟩
    · rw [insR, hnm]
      show (if m = 64 then _ else fls _ (slo q.code.toNat) p r []) = _
      rw [if_neg hm, hct, e1]
      have ez := lays_zt q (slo c) ({ ins0 with code := q.code, op := if c = 6 then q.op else 0 } : Ins) hsl.1
      rw [heq] at ez
      rw [ez]
      rfl
    · rw [e2, hsl.2, hc]
      cases kdL (c : Int) <;> rfl
theorem suf_no {w : List UInt8} (h : gw w) : Lib.hasSuffix w [58] = false := by
  unfold Lib.hasSuffix
  cases e : ([58] : List UInt8).isSuffixOf w with
  | false => rfl
  | true =>
    rw [List.isSuffixOf_iff_suffix] at e
    exact absurd rfl (h.2 58 (e.subset (by simp))).2.2.2.2
theorem ln_ins {q : Ins} {n : Int} {c : Nat} (hc : q.code = (c : Int)) (h : 1 ≤ c ∧ c ≤ 10) (hq : q.cab n c = true) (hn : n64 q) (lb : Nat → List UInt8) (hlb : kdL q.code = true → nmB ⟨(lb q.to.toNat).toArray⟩ = true) {s : Sx} (hm : s.qs.length ≠ 64) {ws : List Pc} (hw : ws.map (·.t) = (wrdsT q lb).map (fun w => (⟨w.toArray⟩ : ByteArray))) :
    ∃ ps : List Pc, lnR ws s = .ok { s with qs := s.qs ++ [zt q], js := s.js ++ ps.map (fun p => (s.qs.length, p)) } ∧ ps.map (·.t) = if kdL q.code = true then [(⟨(lb q.to.toNat).toArray⟩ : ByteArray)] else [] := by
  obtain ⟨ps, e1, e2⟩ := ins_line hc h hq hn lb hlb hm hw
  refine ⟨ps, ?_, e2⟩
  cases ws with
  | nil => unfold wrdsT at hw; simp at hw
  | cons p r =>
    have hp : p.t = ⟨(nmT q).toArray⟩ := by unfold wrdsT at hw; simp only [List.map_cons, List.cons.injEq] at hw; exact hw.1
    unfold lnR
    have : Lib.hasSuffix p.t.data.toList [58] = false := by rw [hp]; exact suf_no (nmd_of hc h hq).2
    rw [this, if_neg (by decide), e1]
theorem ln_lab {w : List UInt8} {s : Sx} {ws : List Pc} (hw : ws.map (·.t) = [(⟨(w ++ [58]).toArray⟩ : ByteArray)]) (hn : nmB ⟨w.toArray⟩ = true) (hf : s.f ⟨w.toArray⟩ = none) :
    lnR ws s = .ok { s with n := s.n + 1, f := upd s.f ⟨w.toArray⟩ (some s.qs.length) } := by
  match ws, hw with
  | [], hw => simp at hw
  | _ :: _ :: _, hw => simp at hw
  | [p], hw =>
    simp only [List.map_cons, List.map_nil, List.cons.injEq, and_true] at hw
    have h1 : Lib.hasSuffix p.t.data.toList [58] = true := by
      rw [hw]
      show Lib.hasSuffix (w ++ [58]) [58] = true
      unfold Lib.hasSuffix
      rw [List.isSuffixOf_iff_suffix]
      exact List.suffix_append _ _
    have h2 : lab p.t = ⟨w.toArray⟩ := by
      unfold lab Lib.trimSuffix
      rw [if_pos h1, hw]
      show (⟨((w ++ [58]).take ((w ++ [58]).length - 1)).toArray⟩ : ByteArray) = _
      rw [show (w ++ [(58 : UInt8)]).length - 1 = w.length by simp, List.take_left]
    unfold lnR
    rw [if_pos h1, h2, if_pos hn, hf]
    rfl
end Go.Proofs.YtdmfkepnopppaaaGreatDoor
namespace Go.Proofs.YtdmfkepnopppaaaGreatDoor
open Go.RowKit
/-- Labels. -/
structure LB (lb : Nat → List UInt8) : Prop where
  nm : ∀ p, lb p ≠ [] → nmB ⟨(lb p).toArray⟩ = true
  gw : ∀ p, lb p ≠ [] → gw (lb p)
  ln : ∀ p, (lb p).length ≤ 3
  inj : ∀ p q, lb p ≠ [] → lb p = lb q → p = q
def plines (l : List Ins) (lb : Nat → List UInt8) (p : Nat) : List (List UInt8) := (if lb p = [] then [] else [lb p ++ [58]]) ++ (if p < l.length then [lineT (l.getD p ins0) lb] else [])
/-- An instruction that can be. -/
structure GI (n : Int) (lb : Nat → List UInt8) (q : Ins) : Prop where
  can : q.can n = true
  n64 : n64 q
  lb : kdL q.code = true → lb q.to.toNat ≠ []
theorem GI.c {n : Int} {lb : Nat → List UInt8} {q : Ins} (h : GI n lb q) : ∃ c : Nat, q.code = (c : Int) ∧ (1 ≤ c ∧ c ≤ 10) ∧ q.cab n c = true := by
  have hc := h.can
  have h1 : 1 ≤ q.code ∧ q.code ≤ 10 := by
    unfold Ins.can at hc
    simp only [Bool.and_eq_true, decide_eq_true_eq] at hc
    exact hc.1.1
  have e : q.code = ((q.code.toNat : Nat) : Int) := by omega
  exact ⟨q.code.toNat, e, by omega, by rw [cab_can e (by omega)]; exact hc⟩
theorem GI.words {n : Int} {lb : Nat → List UInt8} {q : Ins} (h : GI n lb q) (hL : LB lb) : ∀ w ∈ wrdsT q lb, YtdmfkepnopppaaaGreatDoor.gw w := by
  obtain ⟨c, hc, h1, hq⟩ := h.c
  intro w hw
  unfold wrdsT at hw
  rcases List.mem_cons.1 hw with rfl | hw
  · exact (nmd_of hc h1 hq).2
  · obtain ⟨s, hs, rfl⟩ := List.mem_map.1 hw
    have hct : q.code.toNat = c := by omega
    rw [hct] at hs
    have hr := (slo_in h1).1 s hs
    have hok : q.oks n s = true := by
      unfold Ins.cab at hq
      simp only [Bool.and_eq_true] at hq
      exact List.all_eq_true.1 hq.1.2 s hs
    rcases (by omega : s = 1 ∨ s = 2 ∨ s = 3 ∨ s = 4 ∨ s = 5 ∨ s = 6) with rfl | rfl | rfl | rfl | rfl | rfl
    · exact gw_src true q.dst
    · exact gw_cons (by decide) (gw_src q.oR q.oN)
    · exact gw_src q.xR q.xN
    · exact gw_src q.yR q.yN
    · exact (gw_rel hok).1
    · have : (6 : Int) ∈ (slo c).filter (fun s => s = 6) := by simpa using hs
      rw [(slo_in h1).2] at this
      have hk : kdL q.code = true := by
        rw [hc]
        by_cases e : kdL (c : Int) = true
        · exact e
        · rw [if_neg e] at this; cases this
      exact hL.gw _ (h.lb hk)
theorem sp_pc {l : List Ins} {lb : Nat → List UInt8} {n : Int} (hL : LB lb) (hG : ∀ q ∈ l, GI n lb q) (p : Nat) (r : List UInt8) : sp (pcT l lb p ++ r) = plines l lb p ++ sp r := by
  have e2 : ∀ r, sp ((if p < l.length then lineT (l.getD p ins0) lb ++ [10] else []) ++ r) = (if p < l.length then [lineT (l.getD p ins0) lb] else []) ++ sp r := fun r => by
    by_cases h : p < l.length
    · rw [if_pos h, if_pos h, List.append_assoc]
      refine sp_line _ _ (fun c hc => ?_)
      rcases join_mem hc with rfl | ⟨w, hw, hc⟩
      · decide
      · have hm : l.getD p ins0 ∈ l := by rw [List.getD_eq_getElem?_getD, List.getElem?_eq_getElem h]; exact List.getElem_mem h
        exact (((hG _ hm).words hL w hw).2 c hc).1
    · rw [if_neg h, if_neg h]; rfl
  unfold pcT plines
  rw [List.append_assoc]
  by_cases h : lb p = []
  · rw [if_pos h, if_pos h]
    exact e2 r
  · rw [if_neg h, if_neg h, List.append_assoc, show (lb p ++ ([58, 10] ++ ((if p < l.length then lineT (l.getD p ins0) lb ++ [10] else []) ++ r))) = (lb p ++ [58]) ++ 10 :: ((if p < l.length then lineT (l.getD p ins0) lb ++ [10] else []) ++ r) by simp]
    rw [sp_line _ _ (fun c hc => ?_), e2 r]
    · rfl
    · rcases List.mem_append.1 hc with hc | hc
      · exact ((hL.gw p h).2 c hc).1
      · have : c = 58 := by simpa using hc
        subst this; decide
theorem sp_prn {l : List Ins} {lb : Nat → List UInt8} {n : Int} (hL : LB lb) (hG : ∀ q ∈ l, GI n lb q) : ∀ (ps : List Nat), sp (ps.flatMap (pcT l lb)) = ps.flatMap (plines l lb) ++ [[]]
  | [] => rfl
  | p :: ps => by
    rw [List.flatMap_cons, List.flatMap_cons, sp_pc hL hG, sp_prn hL hG ps, List.append_assoc]
theorem rdR_app : ∀ (a b : List ByteArray) (i : Nat) (s s' : Sx), rdR a i s = .ok s' → rdR (a ++ b) i s = rdR b (i + a.length) s'
  | [], b, i, s, s', h => by
    have h : Except.ok s = Except.ok s' := h
    injection h with h
    subst h; rfl
  | x :: a, b, i, s, s', h => by
    have h : (match lnR (wds x ((i : Int) + 1)) s with | .error e => (Except.error e : Except Flt Sx) | .ok s' => rdR a (i + 1) s') = Except.ok s' := h
    show (match lnR (wds x ((i : Int) + 1)) s with | .error e => (Except.error e : Except Flt Sx) | .ok s' => rdR (a ++ b) (i + 1) s') = _
    cases e : lnR (wds x ((i : Int) + 1)) s with
    | error f => rw [e] at h; cases h
    | ok s1 =>
      rw [e] at h
      show rdR (a ++ b) (i + 1) s1 = _
      rw [rdR_app a b (i + 1) s1 s' h, List.length_cons, show i + 1 + a.length = i + (a.length + 1) by omega]
theorem rdR_one {x : ByteArray} {i : Nat} {s s' : Sx} (h : lnR (wds x ((i : Int) + 1)) s = .ok s') : rdR [x] i s = .ok s' := by
  show (match lnR (wds x ((i : Int) + 1)) s with | .error e => (Except.error e : Except Flt Sx) | .ok s' => rdR [] (i + 1) s') = _
  rw [h]; rfl
/-- How far the reading has come: the places below p are read. -/
structure RI0 (l : List Ins) (lb : Nat → List UInt8) (p : Nat) (s : Sx) : Prop where
  qs : s.qs = (l.take p).map zt
  fs : ∀ t v, s.f t = some v ↔ (v < p ∧ lb v ≠ [] ∧ t = ⟨(lb v).toArray⟩)
  js : ∀ x ∈ s.js, x.1 < l.length ∧ kdL (l.getD x.1 ins0).code = true ∧ x.2.t = ⟨(lb (l.getD x.1 ins0).to.toNat).toArray⟩
  ja : ∀ i, i < p → i < l.length → kdL (l.getD i ins0).code = true → ∃ x ∈ s.js, x.1 = i
theorem ba_inj {a b : List UInt8} (h : (⟨a.toArray⟩ : ByteArray) = ⟨b.toArray⟩) : a = b := by
  have := congrArg (fun x => x.data.toList) h
  simpa using this
def bas (l : List (List UInt8)) : List ByteArray := l.map (fun w => ⟨w.toArray⟩)
theorem rd_place {l : List Ins} {lb : Nat → List UInt8} {n : Int} (hL : LB lb) (hG : ∀ q ∈ l, GI n lb q) (h64 : l.length ≤ 64) {p : Nat} (hp : p ≤ l.length) {s : Sx} (h : RI0 l lb p s) (i : Nat) : ∃ s', rdR (bas (plines l lb p)) i s = .ok s' ∧ RI0 l lb (p + 1) s' := by
  have hqs : s.qs.length = p := by rw [h.qs]; simp; omega
  have fstep : ∀ (f : ByteArray → Option Nat), (∀ t v, f t = some v ↔ (v < p ∧ lb v ≠ [] ∧ t = ⟨(lb v).toArray⟩)) → lb p ≠ [] → ∀ t v, upd f ⟨(lb p).toArray⟩ (some p) t = some v ↔ (v < p + 1 ∧ lb v ≠ [] ∧ t = ⟨(lb v).toArray⟩) := fun f hf hlb t v => by
    unfold upd
    by_cases e : t = ⟨(lb p).toArray⟩
    · rw [if_pos e]
      constructor
      · intro hv
        injection hv with hv
        subst hv
        exact ⟨by omega, hlb, e⟩
      · rintro ⟨_, h2, h3⟩
        have := hL.inj v p h2 (ba_inj (h3.symm.trans e))
        rw [this]
    · rw [if_neg e, hf]
      constructor
      · rintro ⟨h1, h2, h3⟩; exact ⟨by omega, h2, h3⟩
      · rintro ⟨h1, h2, h3⟩
        refine ⟨?_, h2, h3⟩
        rcases (by omega : v < p ∨ v = p) with g | rfl
        · exact g
        · exact absurd h3 e
  have fsame : lb p = [] → ∀ t v, s.f t = some v ↔ (v < p + 1 ∧ lb v ≠ [] ∧ t = ⟨(lb v).toArray⟩) := fun hlb t v => by
    rw [h.fs]
    constructor
    · rintro ⟨h1, h2, h3⟩; exact ⟨by omega, h2, h3⟩
    · rintro ⟨h1, h2, h3⟩
      refine ⟨?_, h2, h3⟩
      rcases (by omega : v < p ∨ v = p) with g | rfl
      · exact g
      · exact absurd hlb h2
  -- the label's line
  have hlab : ∃ s1, rdR (bas (if lb p = [] then [] else [lb p ++ [58]])) i s = .ok s1 ∧ s1.qs = s.qs ∧ s1.js = s.js ∧ ∀ t v, s1.f t = some v ↔ (v < p + 1 ∧ lb v ≠ [] ∧ t = ⟨(lb v).toArray⟩) := by
    by_cases hlb : lb p = []
    · rw [if_pos hlb]
      exact ⟨s, rfl, rfl, rfl, fsame hlb⟩
    · rw [if_neg hlb]
      have hg := hL.gw p hlb
      have hw : (wds ⟨(lb p ++ [58]).toArray⟩ ((i : Int) + 1)).map (·.t) = [(⟨(lb p ++ [58]).toArray⟩ : ByteArray)] := by
        have := wds_join [lb p ++ [58]] ((i : Int) + 1) (fun w hw => by
          have : w = lb p ++ [58] := by simpa using hw
          subst this
          refine ⟨⟨by simp, fun c hc => ?_⟩, fun c hc => ?_⟩
          · rcases List.mem_append.1 hc with hc | hc
            · exact (gw_blk hg).2 c hc
            · have : c = 58 := by simpa using hc
              subst this; decide
          · rcases List.mem_append.1 hc with hc | hc
            · exact (hg.2 c hc).2.2.2.1
            · have : c = 58 := by simpa using hc
              subst this; decide)
        rw [Lib.join_one] at this
        exact this
      have hf : s.f ⟨(lb p).toArray⟩ = none := by
        cases e : s.f ⟨(lb p).toArray⟩ with
        | none => rfl
        | some v =>
          obtain ⟨h1, h2, h3⟩ := (h.fs _ _).1 e
          have := hL.inj p v hlb (ba_inj h3)
          omega
      refine ⟨_, rdR_one (ln_lab hw (hL.nm p hlb) hf), rfl, rfl, ?_⟩
      rw [hqs]
      exact fstep s.f h.fs hlb
  obtain ⟨s1, e1, q1, j1, f1⟩ := hlab
  unfold plines bas
  rw [List.map_append]
  have e1' : rdR ((if lb p = [] then [] else [lb p ++ [58]]).map (fun w => (⟨w.toArray⟩ : ByteArray))) i s = .ok s1 := e1
  rw [rdR_app _ _ i s s1 e1']
  by_cases hlt : p < l.length
  · rw [if_pos hlt]
    have hg : l.getD p ins0 = l[p] := by rw [List.getD_eq_getElem?_getD, List.getElem?_eq_getElem hlt]; rfl
    have hm : l.getD p ins0 ∈ l := by rw [hg]; exact List.getElem_mem hlt
    have G := hG _ hm
    obtain ⟨c, hc, h1, hq⟩ := G.c
    have hw := wds_join (wrdsT (l.getD p ins0) lb) (((i + ((if lb p = [] then [] else [lb p ++ [58]]).map (fun w => (⟨w.toArray⟩ : ByteArray))).length : Nat) : Int) + 1) (fun w hw => ⟨gw_blk (G.words hL w hw), fun c hc => ((G.words hL w hw).2 c hc).2.2.2.1⟩)
    obtain ⟨ps, e2, e3⟩ := ln_ins (s := s1) hc h1 hq G.n64 lb (fun hk => hL.nm _ (G.lb hk)) (by rw [q1, hqs]; omega) hw
    refine ⟨_, rdR_one e2, ?_, f1, ?_, ?_⟩
    · show s1.qs ++ [zt (l.getD p ins0)] = _
      rw [q1, h.qs, List.take_add_one, List.getElem?_eq_getElem hlt, hg, Option.toList_some, List.map_append]
      rfl
    · intro x hx
      have hx : x ∈ s1.js ++ ps.map (fun p => (s1.qs.length, p)) := hx
      rcases List.mem_append.1 hx with hx | hx
      · rw [j1] at hx; exact h.js x hx
      · obtain ⟨y, hy, rfl⟩ := List.mem_map.1 hx
        show s1.qs.length < l.length ∧ kdL (l.getD s1.qs.length ins0).code = true ∧ y.t = ⟨(lb (l.getD s1.qs.length ins0).to.toNat).toArray⟩
        rw [q1, hqs]
        have hyt : y.t ∈ ps.map (·.t) := List.mem_map.2 ⟨y, hy, rfl⟩
        rw [e3] at hyt
        by_cases hk : kdL (l.getD p ins0).code = true
        · rw [if_pos hk] at hyt
          exact ⟨hlt, hk, by simpa using hyt⟩
        · rw [if_neg hk] at hyt; cases hyt
    · intro k hk hkl hkd
      show ∃ x ∈ s1.js ++ ps.map (fun p => (s1.qs.length, p)), x.1 = k
      rcases (by omega : k < p ∨ k = p) with g | rfl
      · obtain ⟨x, hx, hxk⟩ := h.ja k g hkl hkd
        exact ⟨x, List.mem_append.2 (.inl (by rw [j1]; exact hx)), hxk⟩
      · rw [if_pos hkd] at e3
        cases ps with
        | nil => cases e3
        | cons y r => exact ⟨(s1.qs.length, y), List.mem_append.2 (.inr (by simp)), by rw [q1, hqs]⟩
  · rw [if_neg hlt]
    have hpn : p = l.length := by omega
    refine ⟨s1, rfl, ?_, f1, ?_, ?_⟩
    · rw [q1, h.qs, hpn, List.take_of_length_le (Nat.le_refl _), List.take_of_length_le (by omega)]
    · rw [j1]; exact h.js
    · intro k hk hkl hkd
      rw [j1]
      exact h.ja k (by omega) hkl hkd
theorem rd_from {l : List Ins} {lb : Nat → List UInt8} {n : Int} (hL : LB lb) (hG : ∀ q ∈ l, GI n lb q) (h64 : l.length ≤ 64) : ∀ (m p : Nat) (s : Sx) (i : Nat), p + m = l.length + 1 → RI0 l lb p s → ∃ s', rdR (bas ((List.range' p m).flatMap (plines l lb) ++ [[]])) i s = .ok s' ∧ RI0 l lb (l.length + 1) s'
  | 0, p, s, i, hm, h => by
    have hp : p = l.length + 1 := by omega
    subst hp
    refine ⟨s, ?_, h⟩
    show rdR [⟨#[]⟩] i s = _
    refine rdR_one ?_
    have : wds ⟨#[]⟩ ((i : Int) + 1) = [] := by
      have := wds_join [] ((i : Int) + 1) (fun w hw => by cases hw)
      rw [Lib.join_nil] at this
      simpa using this
    rw [this]
    rfl
  | m + 1, p, s, i, hm, h => by
    obtain ⟨s1, e1, h1⟩ := rd_place hL hG h64 (by omega) h i
    rw [List.range'_succ, List.flatMap_cons, List.append_assoc]
    unfold bas at e1 ⊢
    rw [List.map_append, rdR_app _ _ i s s1 e1]
    exact rd_from hL hG h64 m (p + 1) s1 _ (by omega) h1
theorem joR_all (f : ByteArray → Option Nat) (l : List Ins) : ∀ (js : List (Nat × Pc)) (qs : List Ins), (∀ x ∈ js, x.1 < qs.length ∧ ∃ v, f x.2.t = some v ∧ (v : Int) = (l.getD x.1 ins0).to) →
    ∃ qs', joR f js qs = .ok qs' ∧ qs'.length = qs.length ∧ ∀ i, i < qs.length → qs'.getD i ins0 = if ∃ x ∈ js, x.1 = i then { qs.getD i ins0 with to := (l.getD i ins0).to } else qs.getD i ins0
  | [], qs, _ => ⟨qs, rfl, rfl, fun i _ => by simp⟩
  | x :: r, qs, h => by
    obtain ⟨hx, v, hv, hv2⟩ := h x (by simp)
    obtain ⟨qs', e1, e2, e3⟩ := joR_all f l r (qs.set x.1 { qs.getD x.1 ins0 with to := (v : Int) }) (fun y hy => by
      have := h y (by simp [hy])
      rw [List.length_set]; exact this)
    refine ⟨qs', ?_, by rw [e2, List.length_set], fun i hi => ?_⟩
    · show (match f x.2.t with | none => (Except.error (107, x.2.ln, x.2.col) : Except Flt (List Ins)) | some v => joR f r (qs.set x.1 { qs.getD x.1 ins0 with to := (v : Int) })) = _
      rw [hv]
      exact e1
    · rw [e3 i (by rw [List.length_set]; exact hi)]
      by_cases e : x.1 = i
      · have eg : (qs.set x.1 { qs.getD x.1 ins0 with to := (v : Int) }).getD i ins0 = { qs.getD i ins0 with to := (l.getD i ins0).to } := by
          rw [← e, List.getD_eq_getElem?_getD, List.getElem?_set_self hx, hv2]; rfl
        rw [eg, if_pos (show ∃ y ∈ x :: r, y.1 = i from ⟨x, by simp, e⟩)]
        split <;> rfl
      · have eg : (qs.set x.1 { qs.getD x.1 ins0 with to := (v : Int) }).getD i ins0 = qs.getD i ins0 := by
          rw [List.getD_eq_getElem?_getD, List.getElem?_set_ne e, List.getD_eq_getElem?_getD]
        rw [eg]
        have : (∃ y ∈ x :: r, y.1 = i) ↔ ∃ y ∈ r, y.1 = i := by simp [e]
        by_cases g : ∃ y ∈ r, y.1 = i
        · rw [if_pos g, if_pos (this.2 g)]
        · rw [if_neg g, if_neg (fun z => g (this.1 z))]
end Go.Proofs.YtdmfkepnopppaaaGreatDoor
namespace Go.Proofs.YtdmfkepnopppaaaGreatDoor
open Go.RowKit
/-! The places that are jumped to. -/
theorem comp_str (d : Array Int) (hs : ∀ i j, i < j → j < d.size → d[i]! ≤ d[j]!) : ∀ m, m ≤ d.size → (Lib.compactUpTo d m).Pairwise (· < ·) ∧ ∀ x, x ∈ Lib.compactUpTo d m ↔ ∃ j, j < m ∧ d[j]! = x
  | 0, _ => ⟨by simp [Lib.compactUpTo], fun x => by simp [Lib.compactUpTo]⟩
  | m + 1, hm => by
    obtain ⟨i1, i2⟩ := comp_str d hs m (by omega)
    rw [Lib.compactUpTo_succ]
    by_cases hk : Lib.keeps d m = true
    · rw [if_pos hk]
      have hlt : ∀ x ∈ Lib.compactUpTo d m, x < d[m]! := fun x hx => by
        obtain ⟨j, hj, rfl⟩ := (i2 x).1 hx
        have h0 : m ≠ 0 := by omega
        have hne : d[m]! ≠ d[m - 1]! := by
          unfold Lib.keeps at hk
          simp [h0] at hk
          simpa using hk
        have h1 := hs (m - 1) m (by omega) (by omega)
        rcases (by omega : j = m - 1 ∨ j < m - 1) with rfl | g
        · omega
        · have h2 := hs j (m - 1) g (by omega)
          omega
      refine ⟨List.pairwise_append.2 ⟨i1, by simp, fun a ha b hb => ?_⟩, fun x => ?_⟩
      · have : b = d[m]! := by simpa using hb
        rw [this]; exact hlt a ha
      · rw [List.mem_append, i2]
        constructor
        · rintro (⟨j, hj, e⟩ | h)
          · exact ⟨j, by omega, e⟩
          · exact ⟨m, by omega, (by simpa using h : x = d[m]!).symm⟩
        · rintro ⟨j, hj, e⟩
          rcases (by omega : j < m ∨ j = m) with g | rfl
          · exact .inl ⟨j, g, e⟩
          · exact .inr (by simp [e])
    · rw [if_neg hk, List.append_nil]
      have hk' : Lib.keeps d m = false := by simpa using hk
      have h0 : m ≠ 0 := by
        intro e; rw [e] at hk'
        rw [Lib.keeps_lt_one d 0 (by omega)] at hk'
        cases hk'
      have he : d[m]! = d[m - 1]! := by
        unfold Lib.keeps at hk'
        simp [h0] at hk'
        simpa using hk'
      refine ⟨i1, fun x => ?_⟩
      rw [i2]
      constructor
      · rintro ⟨j, hj, e⟩; exact ⟨j, by omega, e⟩
      · rintro ⟨j, hj, e⟩
        rcases (by omega : j < m ∨ j = m) with g | rfl
        · exact ⟨j, g, e⟩
        · exact ⟨j - 1, by omega, by rw [← he]; exact e⟩
theorem tgS_ok (l : List Ins) : (tgS l).Pairwise (· < ·) ∧ (∀ x, x ∈ tgS l ↔ x ∈ tgs l) ∧ (tgS l).length ≤ l.length := by
  have hsrt : ((tgs l).mergeSort fun x y => decide (x ≤ y)).Pairwise (fun a b => decide (a ≤ b) = true) := List.pairwise_mergeSort (le := fun x y => decide (x ≤ y)) (fun a b c h1 h2 => by simp at *; omega) (fun a b => by simp; omega) _
  have hperm := List.mergeSort_perm (tgs l) (fun x y => decide (x ≤ y))
  unfold tgS Lib.compact
  generalize hd : (tgs l).mergeSort (fun x y => decide (x ≤ y)) = d at hsrt hperm
  have hget : ∀ i (h : i < d.length), d.toArray[i]! = d[i] := fun i h => by
    rw [getElem!_pos d.toArray i (by simpa using h)]; simp
  have key := comp_str d.toArray (fun i j hij hj => by
    have hj : j < d.length := by simpa using hj
    rw [hget i (by omega), hget j hj]
    have := List.pairwise_iff_getElem.1 hsrt i j (by omega) hj hij
    simpa using this) d.length (by simp)
  refine ⟨key.1, fun x => ?_, ?_⟩
  · rw [key.2, ← hperm.mem_iff]
    constructor
    · rintro ⟨j, hj, e⟩
      rw [hget j hj] at e
      rw [← e]; exact List.getElem_mem hj
    · intro hx
      obtain ⟨j, hj, e⟩ := List.mem_iff_getElem.1 hx
      exact ⟨j, hj, by rw [hget j hj]; exact e⟩
  · unfold Lib.compactUpTo
    rw [List.length_map]
    refine Nat.le_trans (List.length_filter_le _ _) ?_
    rw [List.length_range, hperm.length_eq]
    unfold tgs
    rw [List.length_map]
    exact List.length_filter_le _ _
theorem lbk_none {T : List Int} {p : Nat} (h : (p : Int) ∉ T) : ∀ k, k ≤ T.length → lbk T k p = []
  | 0, _ => rfl
  | k + 1, hk => by
    show (if (p : Int) = T.getD k 0 then _ else lbk T k p) = []
    rw [if_neg, lbk_none h k (by omega)]
    intro e
    apply h
    rw [e, List.getD_eq_getElem?_getD, List.getElem?_eq_getElem (by omega)]
    exact List.getElem_mem (by omega)
theorem lbk_some {T : List Int} (hT : T.Pairwise (· < ·)) {p j : Nat} (hj : j < T.length) (hp : T.getD j 0 = (p : Int)) : ∀ k, j < k → k ≤ T.length → lbk T k p = 108 :: Lib.itoa (j : Int)
  | 0, h, _ => absurd h (Nat.not_lt_zero _)
  | k + 1, h, hk => by
    show (if (p : Int) = T.getD k 0 then 108 :: Lib.itoa (k : Int) else lbk T k p) = _
    rcases (by omega : j = k ∨ j < k) with rfl | g
    · rw [if_pos hp.symm]
    · rw [if_neg, lbk_some hT hj hp k g (by omega)]
      rw [← hp]
      have := List.pairwise_iff_getElem.1 hT j k hj (by omega) g
      rw [List.getD_eq_getElem?_getD, List.getElem?_eq_getElem hj, List.getD_eq_getElem?_getD, List.getElem?_eq_getElem (show k < T.length by omega)]
      show ¬ T[j] = T[k]
      omega
theorem lb_cases {T : List Int} (hT : T.Pairwise (· < ·)) (p : Nat) : lbk T T.length p = [] ∨ ∃ j, j < T.length ∧ T.getD j 0 = (p : Int) ∧ lbk T T.length p = 108 :: Lib.itoa (j : Int) := by
  by_cases h : (p : Int) ∈ T
  · obtain ⟨j, hj, e⟩ := List.mem_iff_getElem.1 h
    have e' : T.getD j 0 = (p : Int) := by rw [List.getD_eq_getElem?_getD, List.getElem?_eq_getElem hj]; exact e
    exact .inr ⟨j, hj, e', lbk_some hT hj e' _ hj (Nat.le_refl _)⟩
  · exact .inl (lbk_none h _ (Nat.le_refl _))
theorem itoa_len2 {j : Nat} (h : j < 100) : (Lib.itoa (j : Int)).length ≤ 2 := by
  have e : Lib.itoa (j : Int) = Lib.decDigits j := by
    rw [itoa_pos' (by omega)]; rfl
  rw [e]
  by_cases g : j < 10
  · rw [dec_small g]; simp
  · rw [dec_big g, dec_small (by omega)]; simp
theorem nmB_lab {j : Nat} (h : j < 100) : nmB ⟨(108 :: Lib.itoa (j : Int)).toArray⟩ = true := by
  have hl := itoa_len2 h
  have hd : ∀ c ∈ Lib.itoa (j : Int), digB c = true := by
    rw [itoa_pos' (by omega)]
    exact fun c hc => List.all_eq_true.1 (dec_digs _) c hc
  unfold nmB
  have hs : (⟨(108 :: Lib.itoa (j : Int)).toArray⟩ : ByteArray).size = (Lib.itoa (j : Int)).length + 1 := by
    show ((108 :: Lib.itoa (j : Int)).toArray).size = _
    simp
  rw [hs]
  have a1 : ((Lib.itoa (j : Int)).length + 1 == 0) = false := by simp
  have a2 : decide ((Lib.itoa (j : Int)).length + 1 ≤ 16) = true := by simp; omega
  rw [a1, a2]
  simp only [Bool.not_false, Bool.true_and, List.all_eq_true, List.mem_range]
  intro i hi
  unfold chOk
  cases i with
  | zero => rfl
  | succ i =>
    have hg : (108 :: Lib.itoa (j : Int)).toArray.getD (i + 1) 0 = (Lib.itoa (j : Int))[i] := by
      rw [Array.getD_eq_getD_getElem?, List.getElem?_toArray, List.getElem?_cons_succ, List.getElem?_eq_getElem (by omega)]; rfl
    show (decide (97 ≤ ((108 :: Lib.itoa (j : Int)).toArray.getD (i + 1) 0).toNat) && _ || _) = true
    have h2 := (digB_iff _).1 (hd _ (List.getElem_mem (l := Lib.itoa (j : Int)) (n := i) (by omega)))
    have b1 : (decide (48 ≤ ((108 :: Lib.itoa (j : Int)).toArray.getD (i + 1) 0).toNat) && decide (((108 :: Lib.itoa (j : Int)).toArray.getD (i + 1) 0).toNat ≤ 57)) = true := by
      rw [hg]; simp [h2]
    have b2 : (!(i + 1 == 0)) = true := by simp
    rw [b2, b1]
    simp
theorem lb_ok (l : List Ins) (h : l.length ≤ 64) : LB (lbT l) := by
  obtain ⟨h1, _, h3⟩ := tgS_ok l
  have hc := fun p => lb_cases h1 p
  have hgw : ∀ j : Nat, YtdmfkepnopppaaaGreatDoor.gw (108 :: Lib.itoa (j : Int)) := fun j => gw_cons (by decide) (gw_itoa _)
  refine ⟨fun p hp => ?_, fun p hp => ?_, fun p => ?_, fun p q hp he => ?_⟩
  · rcases hc p with e | ⟨j, hj, _, e⟩
    · exact absurd e hp
    · show nmB ⟨(lbk (tgS l) (tgS l).length p).toArray⟩ = true
      rw [e]; exact nmB_lab (by omega)
  · rcases hc p with e | ⟨j, hj, _, e⟩
    · exact absurd e hp
    · show YtdmfkepnopppaaaGreatDoor.gw (lbk (tgS l) (tgS l).length p)
      rw [e]; exact hgw j
  · show (lbk (tgS l) (tgS l).length p).length ≤ 3
    rcases hc p with e | ⟨j, hj, _, e⟩
    · rw [e]; simp
    · rw [e, List.length_cons]
      have := itoa_len2 (j := j) (by omega)
      omega
  · have he : lbk (tgS l) (tgS l).length p = lbk (tgS l) (tgS l).length q := he
    rcases hc p with e | ⟨j, hj, ej, e⟩
    · exact absurd e hp
    · rcases hc q with e' | ⟨k, hk, ek, e'⟩
      · rw [e, e'] at he; cases he
      · rw [e, e'] at he
        injection he with _ he
        have r1 := round_to (j : Int) ⟨by omega, by omega⟩
        have r2 := round_to (k : Int) ⟨by omega, by omega⟩
        rw [he, r2.1] at r1
        have : k = j := by omega
        subst this
        rw [ej] at ek
        omega
theorem lb_to {l : List Ins} {q : Ins} {n : Int} (hq : q ∈ l) (hk : kdL q.code = true) (hc : q.can n = true) : lbT l q.to.toNat ≠ [] ∧ 0 ≤ q.to ∧ q.to ≤ n := by
  have hb : 0 ≤ q.to ∧ q.to ≤ n := by
    unfold Ins.can at hc
    simp only [Bool.and_eq_true] at hc
    have := hc.1.2.1.2
    unfold btw at this
    rw [hk, if_pos rfl] at this
    simpa using this
  obtain ⟨h1, h2, _⟩ := tgS_ok l
  refine ⟨?_, hb⟩
  have hm : q.to ∈ tgS l := (h2 _).2 (by
    unfold tgs
    exact List.mem_map.2 ⟨q, List.mem_filter.2 ⟨hq, hk⟩, rfl⟩)
  obtain ⟨j, hj, e⟩ := List.mem_iff_getElem.1 hm
  have e' : (tgS l).getD j 0 = ((q.to.toNat : Nat) : Int) := by
    rw [List.getD_eq_getElem?_getD, List.getElem?_eq_getElem hj]
    show (tgS l)[j] = _
    rw [e]; omega
  show lbk (tgS l) (tgS l).length q.to.toNat ≠ []
  rw [lbk_some h1 hj e' _ hj (Nat.le_refl _)]
  simp
end Go.Proofs.YtdmfkepnopppaaaGreatDoor
namespace Go.Proofs.YtdmfkepnopppaaaGreatDoor
open Go.RowKit
theorem join_len : ∀ (ws : List (List UInt8)), (Lib.join ws [32]).length + 1 ≤ (ws.map (fun w => w.length + 1)).sum + (if ws = [] then 1 else 0)
  | [] => by rw [Lib.join_nil]; simp
  | [w] => by rw [Lib.join_one]; simp
  | w :: v :: r => by
    have e : Lib.join (w :: v :: r) [32] = w ++ (32 :: Lib.join (v :: r) [32]) := by
      rw [Lib.join_cons, Lib.join_cons]; simp [Lib.joinTail]
    have i := join_len (v :: r)
    rw [e, List.length_append, List.length_cons, List.map_cons, List.sum_cons, if_neg (by simp)]
    rw [if_neg (by simp)] at i
    omega
theorem src_len {r : Bool} {n : Int} (hn : In64 n) : (srcT r n).length ≤ 21 := by
  have := (round_to n hn).2.2.2
  unfold srcT
  cases r <;> simp <;> omega
theorem dst_len {n : Int} (h : rg n = true) : (srcT true n).length ≤ 3 := by
  unfold rg at h
  simp at h
  obtain ⟨k, rfl⟩ : ∃ k : Nat, n = k := ⟨n.toNat, by omega⟩
  have := itoa_len2 (j := k) (by omega)
  unfold srcT
  simp; omega
def tl (s : Int) : Nat := if s = 1 then 3 else if s = 2 then 22 else if s = 3 then 21 else if s = 4 then 21 else if s = 5 then 2 else 3
theorem line_len {n : Int} {lb : Nat → List UInt8} {q : Ins} (h : GI n lb q) (hL : LB lb) : (lineT q lb).length + 1 ≤ 58 := by
  obtain ⟨c, hc, h1, hq⟩ := h.c
  have hct : q.code.toNat = c := by omega
  have hok : ∀ s ∈ slo c, q.oks n s = true := by
    unfold Ins.cab at hq
    simp only [Bool.and_eq_true] at hq
    exact List.all_eq_true.1 hq.1.2
  have ht : ∀ s ∈ slo c, (tldT q lb s).length ≤ tl s := fun s hs => by
    have hr := (slo_in h1).1 s hs
    rcases (by omega : s = 1 ∨ s = 2 ∨ s = 3 ∨ s = 4 ∨ s = 5 ∨ s = 6) with rfl | rfl | rfl | rfl | rfl | rfl
    · exact dst_len (hok _ hs)
    · have := src_len (r := q.oR) h.n64.1
      show (64 :: srcT q.oR q.oN).length ≤ 22
      rw [List.length_cons]; omega
    · exact src_len h.n64.2.1
    · exact src_len h.n64.2.2
    · obtain ⟨_, _, h3, h4⟩ := gw_rel (hok _ hs)
      show (relT q.rel.toNat).data.toList.length ≤ 2
      generalize q.rel.toNat = k at h3 h4
      rcases (by omega : k = 1 ∨ k = 2 ∨ k = 3 ∨ k = 4 ∨ k = 5 ∨ k = 6) with rfl | rfl | rfl | rfl | rfl | rfl <;> decide
    · exact hL.ln _
  have hnm : (nmT q).length ≤ 4 := by
    unfold nmT
    by_cases h6 : q.code = 6
    · rw [if_pos h6]
      have ho : isOp q.op = true := by
        have : c = 6 := by omega
        subst this
        unfold Ins.cab at hq
        simp at hq
        exact hq.1.1
      obtain ⟨_, _, h3, h4⟩ := gw_op ho
      generalize q.op.toNat = k at h3 h4
      rcases (by omega : k = 1 ∨ k = 2 ∨ k = 3 ∨ k = 4 ∨ k = 5 ∨ k = 6 ∨ k = 7 ∨ k = 8 ∨ k = 9 ∨ k = 10 ∨ k = 11 ∨ k = 12) with rfl | rfl | rfl | rfl | rfl | rfl | rfl | rfl | rfl | rfl | rfl | rfl <;> decide
    · rw [if_neg h6, hct]
      rcases (by omega : c = 1 ∨ c = 2 ∨ c = 3 ∨ c = 4 ∨ c = 5 ∨ c = 6 ∨ c = 7 ∨ c = 8 ∨ c = 9 ∨ c = 10) with rfl | rfl | rfl | rfl | rfl | rfl | rfl | rfl | rfl | rfl <;> decide
  have hsum : ∀ (ss : List Int), (∀ s ∈ ss, (tldT q lb s).length ≤ tl s) → ((ss.map (tldT q lb)).map (fun w => w.length + 1)).sum ≤ (ss.map (fun s => tl s + 1)).sum := by
    intro ss
    induction ss with
    | nil => intro _; exact Nat.le_refl _
    | cons s ss ih =>
      intro hh
      have a := hh s (by simp)
      have b := ih (fun x hx => hh x (by simp [hx]))
      simp only [List.map_cons, List.sum_cons]
      omega
  have hj := join_len (wrdsT q lb)
  have hne : wrdsT q lb ≠ [] := by unfold wrdsT; simp
  rw [if_neg hne] at hj
  have hb := hsum (slo c) ht
  have hc2 : ((slo c).map (fun s => tl s + 1)).sum ≤ 53 := by
    rcases (by omega : c = 1 ∨ c = 2 ∨ c = 3 ∨ c = 4 ∨ c = 5 ∨ c = 6 ∨ c = 7 ∨ c = 8 ∨ c = 9 ∨ c = 10) with rfl | rfl | rfl | rfl | rfl | rfl | rfl | rfl | rfl | rfl <;> decide
  unfold lineT
  unfold wrdsT at hj ⊢
  rw [hct, List.map_cons, List.sum_cons] at hj
  rw [hct]
  omega
theorem prn_len {l : List Ins} {lb : Nat → List UInt8} {n : Int} (hL : LB lb) (hG : ∀ q ∈ l, GI n lb q) : ∀ k, (prnK l lb k).length ≤ 5 * k + 58 * (min k l.length)
  | 0 => by simp [prnK]
  | k + 1 => by
    have i := prn_len hL hG k
    unfold prnK at i ⊢
    rw [List.range_succ, List.flatMap_append, List.length_append]
    have : (([k] : List Nat).flatMap (pcT l lb)).length ≤ 5 + (if k < l.length then 58 else 0) := by
      rw [List.flatMap_cons, List.flatMap_nil, List.append_nil]
      unfold pcT
      rw [List.length_append]
      have h1 : (if lb k = [] then [] else lb k ++ [58, 10]).length ≤ 5 := by
        have := hL.ln k
        split <;> simp; omega
      have h2 : (if k < l.length then lineT (l.getD k ins0) lb ++ [10] else []).length ≤ (if k < l.length then 58 else 0) := by
        by_cases h : k < l.length
        · rw [if_pos h, if_pos h]
          have hm : l.getD k ins0 ∈ l := by rw [List.getD_eq_getElem?_getD, List.getElem?_eq_getElem h]; exact List.getElem_mem h
          have := line_len (hG _ hm) hL
          rw [List.length_append]
          exact this
        · rw [if_neg h, if_neg h]; simp
      omega
    by_cases h : k < l.length
    · rw [if_pos h] at this
      omega
    · rw [if_neg h] at this
      omega
/-- A program's own text is read as the program. -/
theorem prn_prs {l : List Ins} (h64 : l.length ≤ 64) (hG : ∀ q ∈ l, q.can (l.length : Int) = true ∧ n64 q) : prsR ⟨(prn l).toArray⟩ = .ok l ∧ (prn l).length ≤ 4096 := by
  have hL := lb_ok l h64
  have hGI : ∀ q ∈ l, GI (l.length : Int) (lbT l) q := fun q hq => ⟨(hG q hq).1, (hG q hq).2, fun hk => (lb_to hq hk (hG q hq).1).1⟩
  have hlen : (prn l).length ≤ 4096 := by
    have := prn_len hL hGI (l.length + 1)
    have e : min (l.length + 1) l.length = l.length := by omega
    rw [e] at this
    unfold prn
    omega
  refine ⟨?_, hlen⟩
  have hsp : lns ⟨(prn l).toArray⟩ = bas ((List.range' 0 (l.length + 1)).flatMap (plines l (lbT l)) ++ [[]]) := by
    apply map_inj
    rw [lns_sp]
    show sp (prn l) = _
    unfold prn prnK
    rw [List.range_eq_range', sp_prn hL hGI]
    unfold bas
    rw [List.map_map]
    have : ((fun x : ByteArray => x.data.toList) ∘ fun w : List UInt8 => (⟨w.toArray⟩ : ByteArray)) = id := by funext w; simp
    rw [this, List.map_id]
  obtain ⟨s, e1, hs⟩ := rd_from hL hGI h64 (l.length + 1) 0 ⟨[], 0, fun _ => none, []⟩ 0 (by omega) { qs := by simp, fs := fun t v => by simp, js := fun x hx => absurd hx (by simp), ja := fun i hi => absurd hi (Nat.not_lt_zero _) }
  have hql : s.qs = l.map zt := by rw [hs.qs, List.take_of_length_le (by omega)]
  obtain ⟨qs', e2, e3, e4⟩ := joR_all s.f l s.js s.qs (fun x hx => by
    obtain ⟨h1, h2, h3⟩ := hs.js x hx
    have hm : l.getD x.1 ins0 ∈ l := by rw [List.getD_eq_getElem?_getD, List.getElem?_eq_getElem h1]; exact List.getElem_mem h1
    obtain ⟨a, b, c⟩ := lb_to hm h2 (hG _ hm).1
    refine ⟨by rw [hql, List.length_map]; exact h1, (l.getD x.1 ins0).to.toNat, ?_, by omega⟩
    rw [hs.fs]
    exact ⟨by omega, a, h3⟩)
  unfold prsR
  rw [if_neg (by show ¬ 4096 < ((prn l).toArray).size; simp; omega), hsp, e1]
  show joR s.f s.js s.qs = _
  rw [e2]
  congr 1
  rw [hql, List.length_map] at e3
  refine List.ext_getElem e3 (fun i h1 h2 => ?_)
  have hi := e4 i (by rw [hql, List.length_map]; exact h2)
  have g1 : qs'.getD i ins0 = qs'[i] := by rw [List.getD_eq_getElem?_getD, List.getElem?_eq_getElem h1]; rfl
  have g2 : l.getD i ins0 = l[i] := by rw [List.getD_eq_getElem?_getD, List.getElem?_eq_getElem h2]; rfl
  have g3 : s.qs.getD i ins0 = zt l[i] := by rw [hql, List.getD_eq_getElem?_getD, List.getElem?_map, List.getElem?_eq_getElem h2]; rfl
  rw [g1, g2, g3] at hi
  rw [hi]
  by_cases g : ∃ x ∈ s.js, x.1 = i
  · rw [if_pos g]; rfl
  · rw [if_neg g]
    have hk : kdL l[i].code ≠ true := fun hk => g (hs.ja i (by omega) h2 (by rw [g2]; exact hk))
    have hc := (hG _ (List.getElem_mem h2)).1
    have : l[i].to = 0 := by
      unfold Ins.can at hc
      simp only [Bool.and_eq_true] at hc
      have := hc.1.2.1.2
      unfold btw at this
      rw [if_neg hk] at this
      simpa using this
    show { l[i] with to := 0 } = l[i]
    rw [← this]
end Go.Proofs.YtdmfkepnopppaaaGreatDoor
namespace Go.Proofs.YtdmfkepnopppaaaGreatDoor
open Go.RowKit
/-! What is read can be. -/
theorem src_inv {t : ByteArray} {r : Bool} {n : Int} (h : src t = some (r, n)) : opk r n = true ∧ In64 n := by
  unfold src at h
  split at h
  · rename_i hr
    injection h with h
    injection h with h1 h2
    subst h1 h2
    have hg : rg (regN t) = true := by
      unfold regB at hr
      simp only [Bool.and_eq_true] at hr
      exact hr.2
    refine ⟨by simp [opk, hg], ?_⟩
    unfold rg at hg
    simp at hg
    exact ⟨by omega, by omega⟩
  · split at h
    · rename_i he
      injection h with h
      injection h with h1 h2
      subst h1 h2
      exact ⟨rfl, (round_from he).2⟩
    · cases h
theorem obj_inv {t : ByteArray} {r : Bool} {n : Int} (h : objO t = some (r, n)) : opk r n = true ∧ In64 n := by
  unfold objO at h
  split at h
  · exact src_inv h
  · cases h
theorem fil1_inv {u u' : Ins} {t : ByteArray} (h : fil u 1 t = some u') : ∃ n, rg n = true ∧ u' = { u with dst := n } := by
  unfold fil at h
  rw [if_pos rfl] at h
  split at h
  · rename_i hr
    injection h with h
    refine ⟨regN t, ?_, h.symm⟩
    unfold regB at hr
    simp only [Bool.and_eq_true] at hr
    exact hr.2
  · cases h
theorem fil2_inv {u u' : Ins} {t : ByteArray} (h : fil u 2 t = some u') : ∃ r n, (opk r n = true ∧ In64 n) ∧ u' = { u with oR := r, oN := n } := by
  unfold fil at h
  rw [if_neg (by decide), if_pos rfl, Option.map_eq_some_iff] at h
  obtain ⟨⟨r, n⟩, h1, h2⟩ := h
  exact ⟨r, n, obj_inv h1, h2.symm⟩
theorem fil3_inv {u u' : Ins} {t : ByteArray} (h : fil u 3 t = some u') : ∃ r n, (opk r n = true ∧ In64 n) ∧ u' = { u with xR := r, xN := n } := by
  unfold fil at h
  rw [if_neg (by decide), if_neg (by decide), if_pos rfl, Option.map_eq_some_iff] at h
  obtain ⟨⟨r, n⟩, h1, h2⟩ := h
  exact ⟨r, n, src_inv h1, h2.symm⟩
theorem fil4_inv {u u' : Ins} {t : ByteArray} (h : fil u 4 t = some u') : ∃ r n, (opk r n = true ∧ In64 n) ∧ u' = { u with yR := r, yN := n } := by
  unfold fil at h
  rw [if_neg (by decide), if_neg (by decide), if_neg (by decide), if_pos rfl, Option.map_eq_some_iff] at h
  obtain ⟨⟨r, n⟩, h1, h2⟩ := h
  exact ⟨r, n, src_inv h1, h2.symm⟩
theorem look_le (tab : Nat → ByteArray) (s : ByteArray) : ∀ n i, look tab s i n = 0 ∨ (i ≤ look tab s i n ∧ look tab s i n < i + n)
  | 0, i => .inl rfl
  | n + 1, i => by
    unfold look
    split
    · exact .inr ⟨Nat.le_refl _, by omega⟩
    · rcases look_le tab s n (i + 1) with h | h
      · exact .inl h
      · exact .inr ⟨by omega, by omega⟩
theorem fil5_inv {u u' : Ins} {t : ByteArray} (h : fil u 5 t = some u') : ∃ n, (1 ≤ n ∧ n ≤ 6) ∧ u' = { u with rel := n } := by
  unfold fil at h
  rw [if_neg (by decide), if_neg (by decide), if_neg (by decide), if_neg (by decide), if_pos rfl] at h
  split at h
  · rename_i hr
    injection h with h
    refine ⟨_, ?_, h.symm⟩
    have := look_le relT t 6 1
    omega
  · cases h
theorem fls_nil {u : Ins} {pv : Pc} {ps acc : List Pc} {r : Ins × List Pc} (h : fls u [] pv ps acc = .ok r) : r = (u, acc) := by
  cases ps with
  | nil =>
    have h : Except.ok (u, acc) = Except.ok r := h
    injection h with h
    exact h.symm
  | cons p ps => cases h
theorem fls_six {u : Ins} {ss : List Int} {pv : Pc} {ps acc : List Pc} {r : Ins × List Pc} (h : fls u (6 :: ss) pv ps acc = .ok r) : ∃ p ps', fls u ss p ps' (acc ++ [p]) = .ok r := by
  cases ps with
  | nil => cases h
  | cons p ps =>
    rw [fls, if_pos rfl] at h
    split at h
    · exact ⟨p, ps, h⟩
    · cases h
theorem fls_inv {u : Ins} {s : Int} {ss : List Int} {pv : Pc} {ps acc : List Pc} {r : Ins × List Pc} (hs : s ≠ 6) (h : fls u (s :: ss) pv ps acc = .ok r) : ∃ p ps' u', fil u s p.t = some u' ∧ fls u' ss p ps' acc = .ok r := by
  cases ps with
  | nil => cases h
  | cons p ps =>
    rw [fls, if_neg hs] at h
    cases e : fil u s p.t with
    | none => rw [e] at h; cases h
    | some u' => rw [e] at h; exact ⟨p, ps, u', e, h⟩
/-- An instruction as it is read: it can be, with whatever place. -/
structure CZ (q : Ins) : Prop where
  can : ∀ n t : Int, (if kdL q.code = true then 0 ≤ t ∧ t ≤ n else t = 0) → ({ q with to := t } : Ins).can n = true
  n64 : n64 q
  to : q.to = 0
theorem look_at (tab : Nat → ByteArray) (s : ByteArray) : ∀ n i k, look tab s i n = k → k ≠ 0 → (tab k).toList = s.toList
  | 0, i, k, h, h0 => absurd h.symm h0
  | n + 1, i, k, h, h0 => by
    unfold look at h
    split at h
    · rename_i e
      rw [← h]; simpa using e
    · exact look_at tab s n (i + 1) k h h0
theorem nmd_inv {t : ByteArray} {q : Ins} (h0 : t.size ≠ 0) (h : nmd t = some q) : (∃ o : Int, (1 ≤ o ∧ o ≤ 12) ∧ q = { ins0 with code := 6, op := o }) ∨ ∃ c : Int, (1 ≤ c ∧ c ≤ 10 ∧ c ≠ 6) ∧ q = { ins0 with code := c } := by
  unfold nmd at h
  split at h
  · injection h with h
    have := look_le opT t 12 1
    exact .inl ⟨_, by omega, h.symm⟩
  · split at h
    · rename_i ho hr
      injection h with h
      have := look_le shT t 10 1
      refine .inr ⟨_, ⟨by omega, by omega, ?_⟩, h.symm⟩
      intro e6
      have e6' : look shT t 1 10 = 6 := by omega
      have e7 := look_at shT t 10 1 6 e6' (by decide)
      have e8 : (shT 6).toList = [] := by decide +kernel
      rw [e8, ByteArray.toList_eq] at e7
      apply h0
      show t.data.size = 0
      rw [← Array.length_toList, ← e7]
      rfl
    · cases h
theorem zr64 : In64 0 := ⟨by decide, by decide⟩
theorem ins_can {m : Nat} {ws : List Pc} {q : Ins} {ps : List Pc} (hne : ∀ p ∈ ws, p.t.size ≠ 0) (h : insR m ws = .ok (q, ps)) : m ≠ 64 ∧ CZ q ∧ (ps ≠ [] → kdL q.code = true) := by
  cases ws with
  | nil => cases h
  | cons p r =>
    rw [insR] at h
    cases hn : nmd p.t with
    | none => rw [hn] at h; cases h
    | some u =>
      rw [hn] at h
      have h : (if m = 64 then Except.error (106, p.ln, p.col) else fls u (slo u.code.toNat) p r []) = Except.ok (q, ps) := h
      by_cases hm : m = 64
      · rw [if_pos hm] at h; cases h
      rw [if_neg hm] at h
      refine ⟨hm, ?_⟩
      rcases nmd_inv (hne p (by simp)) hn with ⟨o, ho, rfl⟩ | ⟨c, hc, rfl⟩
      · have h : fls { ins0 with code := 6, op := o } [1, 3, 4] p r [] = Except.ok (q, ps) := h
        obtain ⟨p1, s1, u1, f1, h⟩ := fls_inv (by decide) h
        obtain ⟨p2, s2, u2, f2, h⟩ := fls_inv (by decide) h
        obtain ⟨p3, s3, u3, f3, h⟩ := fls_inv (by decide) h
        obtain ⟨n1, g1, rfl⟩ := fil1_inv f1
        obtain ⟨r2, n2, g2, rfl⟩ := fil3_inv f2
        obtain ⟨r3, n3, g3, rfl⟩ := fil4_inv f3
        have h := fls_nil h
        injection h with h1 h2
        subst h1 h2
        refine ⟨⟨fun n t ht => ?_, ⟨zr64, g2.2, g3.2⟩, rfl⟩, fun h => absurd rfl h⟩
        have g1' := g1
        unfold rg at g1'
        simp at g1'
        simp [kdL] at ht
        simp [Ins.can, btw, fts, kdD, kdO, kdX, kdY, kdR, kdL, ins0, g2.1, g3.1, ht]
        omega
      · obtain ⟨k, rfl⟩ : ∃ k : Nat, c = k := ⟨c.toNat, by omega⟩
        have h : fls { ins0 with code := (k : Int) } (slo k) p r [] = Except.ok (q, ps) := h
        rcases (by omega : k = 1 ∨ k = 2 ∨ k = 3 ∨ k = 4 ∨ k = 5 ∨ k = 7 ∨ k = 8 ∨ k = 9 ∨ k = 10) with rfl | rfl | rfl | rfl | rfl | rfl | rfl | rfl | rfl
        · have h : fls _ [1, 2] p r [] = Except.ok (q, ps) := h
          obtain ⟨p1, s1, u1, f1, h⟩ := fls_inv (by decide) h
          obtain ⟨p2, s2, u2, f2, h⟩ := fls_inv (by decide) h
          obtain ⟨n1, g1, rfl⟩ := fil1_inv f1
          obtain ⟨r2, n2, g2, rfl⟩ := fil2_inv f2
          have h := fls_nil h
          injection h with h1 h2
          subst h1 h2
          refine ⟨⟨fun n t ht => ?_, ⟨g2.2, zr64, zr64⟩, rfl⟩, fun h => absurd rfl h⟩
          have g1' := g1
          unfold rg at g1'
          simp at g1'
          simp [kdL] at ht
          simp [Ins.can, btw, fts, kdD, kdO, kdX, kdY, kdR, kdL, ins0, g2.1, ht]
          omega
        · have h : fls _ [1, 2] p r [] = Except.ok (q, ps) := h
          obtain ⟨p1, s1, u1, f1, h⟩ := fls_inv (by decide) h
          obtain ⟨p2, s2, u2, f2, h⟩ := fls_inv (by decide) h
          obtain ⟨n1, g1, rfl⟩ := fil1_inv f1
          obtain ⟨r2, n2, g2, rfl⟩ := fil2_inv f2
          have h := fls_nil h
          injection h with h1 h2
          subst h1 h2
          refine ⟨⟨fun n t ht => ?_, ⟨g2.2, zr64, zr64⟩, rfl⟩, fun h => absurd rfl h⟩
          have g1' := g1
          unfold rg at g1'
          simp at g1'
          simp [kdL] at ht
          simp [Ins.can, btw, fts, kdD, kdO, kdX, kdY, kdR, kdL, ins0, g2.1, ht]
          omega
        · have h : fls _ [2, 3] p r [] = Except.ok (q, ps) := h
          obtain ⟨p1, s1, u1, f1, h⟩ := fls_inv (by decide) h
          obtain ⟨p2, s2, u2, f2, h⟩ := fls_inv (by decide) h
          obtain ⟨r1, n1, g1, rfl⟩ := fil2_inv f1
          obtain ⟨r2, n2, g2, rfl⟩ := fil3_inv f2
          have h := fls_nil h
          injection h with h1 h2
          subst h1 h2
          refine ⟨⟨fun n t ht => ?_, ⟨g1.2, g2.2, zr64⟩, rfl⟩, fun h => absurd rfl h⟩
          simp [kdL] at ht
          simp [Ins.can, btw, fts, kdD, kdO, kdX, kdY, kdR, kdL, ins0, g1.1, g2.1, ht]
        · have h : fls _ [2] p r [] = Except.ok (q, ps) := h
          obtain ⟨p1, s1, u1, f1, h⟩ := fls_inv (by decide) h
          obtain ⟨r1, n1, g1, rfl⟩ := fil2_inv f1
          have h := fls_nil h
          injection h with h1 h2
          subst h1 h2
          refine ⟨⟨fun n t ht => ?_, ⟨g1.2, zr64, zr64⟩, rfl⟩, fun h => absurd rfl h⟩
          simp [kdL] at ht
          simp [Ins.can, btw, fts, kdD, kdO, kdX, kdY, kdR, kdL, ins0, g1.1, ht]
        · have h : fls _ [1, 3] p r [] = Except.ok (q, ps) := h
          obtain ⟨p1, s1, u1, f1, h⟩ := fls_inv (by decide) h
          obtain ⟨p2, s2, u2, f2, h⟩ := fls_inv (by decide) h
          obtain ⟨n1, g1, rfl⟩ := fil1_inv f1
          obtain ⟨r2, n2, g2, rfl⟩ := fil3_inv f2
          have h := fls_nil h
          injection h with h1 h2
          subst h1 h2
          refine ⟨⟨fun n t ht => ?_, ⟨zr64, g2.2, zr64⟩, rfl⟩, fun h => absurd rfl h⟩
          have g1' := g1
          unfold rg at g1'
          simp at g1'
          simp [kdL] at ht
          simp [Ins.can, btw, fts, kdD, kdO, kdX, kdY, kdR, kdL, ins0, g2.1, ht]
          omega
        · have h : fls _ [3, 5, 4, 6] p r [] = Except.ok (q, ps) := h
          obtain ⟨p1, s1, u1, f1, h⟩ := fls_inv (by decide) h
          obtain ⟨p2, s2, u2, f2, h⟩ := fls_inv (by decide) h
          obtain ⟨p3, s3, u3, f3, h⟩ := fls_inv (by decide) h
          obtain ⟨p4, s4, h⟩ := fls_six h
          obtain ⟨r1, n1, g1, rfl⟩ := fil3_inv f1
          obtain ⟨n2, g2, rfl⟩ := fil5_inv f2
          obtain ⟨r3, n3, g3, rfl⟩ := fil4_inv f3
          have h := fls_nil h
          injection h with h1 h2
          subst h1 h2
          refine ⟨⟨fun n t ht => ?_, ⟨zr64, g1.2, g3.2⟩, rfl⟩, fun _ => rfl⟩
          simp [kdL] at ht
          simp [Ins.can, btw, fts, kdD, kdO, kdX, kdY, kdR, kdL, ins0, g1.1, g3.1, g2, ht]
        · have h : fls _ [6] p r [] = Except.ok (q, ps) := h
          obtain ⟨p4, s4, h⟩ := fls_six h
          have h := fls_nil h
          injection h with h1 h2
          subst h1 h2
          refine ⟨⟨fun n t ht => ?_, ⟨zr64, zr64, zr64⟩, rfl⟩, fun _ => rfl⟩
          simp [kdL] at ht
          simp [Ins.can, btw, fts, kdD, kdO, kdX, kdY, kdR, kdL, ins0, ht]
        · have h : fls _ [] p r [] = Except.ok (q, ps) := h
          have h := fls_nil h
          injection h with h1 h2
          subst h1 h2
          refine ⟨⟨fun n t ht => ?_, ⟨zr64, zr64, zr64⟩, rfl⟩, fun h => absurd rfl h⟩
          simp [kdL] at ht
          simp [Ins.can, btw, fts, kdD, kdO, kdX, kdY, kdR, kdL, ins0, ht]
        · have h : fls _ [3] p r [] = Except.ok (q, ps) := h
          obtain ⟨p1, s1, u1, f1, h⟩ := fls_inv (by decide) h
          obtain ⟨r1, n1, g1, rfl⟩ := fil3_inv f1
          have h := fls_nil h
          injection h with h1 h2
          subst h1 h2
          refine ⟨⟨fun n t ht => ?_, ⟨zr64, g1.2, zr64⟩, rfl⟩, fun h => absurd rfl h⟩
          simp [kdL] at ht
          simp [Ins.can, btw, fts, kdD, kdO, kdX, kdY, kdR, kdL, ins0, g1.1, ht]
end Go.Proofs.YtdmfkepnopppaaaGreatDoor
namespace Go.Proofs.YtdmfkepnopppaaaGreatDoor
open Go.RowKit
/-- A reader on its way. -/
structure SI0 (s : Sx) : Prop where
  le : s.qs.length ≤ 64
  cz : ∀ q ∈ s.qs, CZ q
  js : ∀ x ∈ s.js, x.1 < s.qs.length ∧ kdL (s.qs.getD x.1 ins0).code = true
  f : ∀ t v, s.f t = some v → v ≤ s.qs.length
theorem wdf_ne (s : ByteArray) (num : Int) : ∀ n i, ∀ p ∈ wdf s num n i, p.t.size ≠ 0 ∧ p.ln = num
  | 0, i => fun p hp => by cases hp
  | n + 1, i => by
    intro p hp
    unfold wdf at hp
    split at hp
    · rename_i hlt
      rcases List.mem_append.1 hp with hp | hp
      · split at hp
        · rename_i hl
          rw [List.mem_singleton] at hp
          subst hp
          have hge := stp_ge s (s.size - i) i
          refine ⟨?_, rfl⟩
          show (s.extract i (stp s (s.size - i) i)).size ≠ 0
          rw [ByteArray.size_extract]
          omega
        · cases hp
      · exact wdf_ne s num n _ p hp
    · cases hp
theorem wds_ne (s : ByteArray) (num : Int) : ∀ p ∈ wds s num, p.t.size ≠ 0 ∧ p.ln = num := wdf_ne _ _ _ _
theorem ln_can : ∀ (ps : List Pc) (s s' : Sx), (∀ p ∈ ps, p.t.size ≠ 0) → SI0 s → lnR ps s = .ok s' → SI0 s'
  | [], s, s', _, hs, h => by
    have h : Except.ok s = Except.ok s' := h
    injection h with h
    subst h; exact hs
  | p :: r, s, s', hp, hs, h => by
    unfold lnR at h
    split at h
    · split at h
      · split at h
        · cases h
        · refine ln_can r { qs := s.qs, n := s.n + 1, f := upd s.f (lab p.t) (some s.qs.length), js := s.js } s' (fun q hq => hp q (by simp [hq])) ⟨hs.le, hs.cz, hs.js, fun t v hv => ?_⟩ h
          have hv : upd s.f (lab p.t) (some s.qs.length) t = some v := hv
          unfold upd at hv
          split at hv
          · injection hv with hv
            show v ≤ s.qs.length
            omega
          · exact hs.f t v hv
      · cases h
    · cases e : insR s.qs.length (p :: r) with
      | error f => rw [e] at h; cases h
      | ok x =>
        obtain ⟨q, ps⟩ := x
        rw [e] at h
        have h : Except.ok { s with qs := s.qs ++ [q], js := s.js ++ ps.map (fun p => (s.qs.length, p)) } = Except.ok s' := h
        injection h with h
        subst h
        obtain ⟨hm, hcz, hk⟩ := ins_can hp e
        have hle := hs.le
        refine ⟨?_, ?_, ?_, ?_⟩
        · show (s.qs ++ [q]).length ≤ 64
          rw [List.length_append, List.length_singleton]; omega
        · intro y hy
          rcases List.mem_append.1 hy with hy | hy
          · exact hs.cz y hy
          · have : y = q := by simpa using hy
            subst this; exact hcz
        · intro x hx
          show x.1 < (s.qs ++ [q]).length ∧ kdL ((s.qs ++ [q]).getD x.1 ins0).code = true
          rw [List.length_append, List.length_singleton]
          rcases List.mem_append.1 hx with hx | hx
          · obtain ⟨h1, h2⟩ := hs.js x hx
            refine ⟨by omega, ?_⟩
            rw [List.getD_eq_getElem?_getD, List.getElem?_append_left h1, ← List.getD_eq_getElem?_getD]
            exact h2
          · obtain ⟨y, hy, rfl⟩ := List.mem_map.1 hx
            refine ⟨by show s.qs.length < _; omega, ?_⟩
            show kdL ((s.qs ++ [q]).getD s.qs.length ins0).code = true
            rw [List.getD_eq_getElem?_getD, List.getElem?_append_right (Nat.le_refl _), Nat.sub_self]
            exact hk (by intro e; rw [e] at hy; cases hy)
        · intro t v hv
          have := hs.f t v hv
          show v ≤ (s.qs ++ [q]).length
          rw [List.length_append, List.length_singleton]; omega
theorem rd_can : ∀ (ls : List ByteArray) (i : Nat) (s s' : Sx), SI0 s → rdR ls i s = .ok s' → SI0 s'
  | [], i, s, s', hs, h => by
    have h : Except.ok s = Except.ok s' := h
    injection h with h
    subst h; exact hs
  | l :: ls, i, s, s', hs, h => by
    have h : (match lnR (wds l ((i : Int) + 1)) s with | .error e => (Except.error e : Except Flt Sx) | .ok s' => rdR ls (i + 1) s') = Except.ok s' := h
    cases e : lnR (wds l ((i : Int) + 1)) s with
    | error f => rw [e] at h; cases h
    | ok s1 =>
      rw [e] at h
      exact rd_can ls (i + 1) s1 s' (ln_can _ s s1 (fun p hp => (wds_ne _ _ p hp).1) hs e) h
/-- An instruction's own place set, or not. -/
def OneOf (n : Nat) (u q : Ins) : Prop := ∃ t : Int, q = { u with to := t } ∧ (if kdL u.code = true then 0 ≤ t ∧ t ≤ (n : Int) else t = 0)
theorem jo_can (f : ByteArray → Option Nat) (n : Nat) (base : List Ins) (hf : ∀ t v, f t = some v → v ≤ n) : ∀ (js : List (Nat × Pc)) (qs l : List Ins), qs.length = base.length → (∀ x ∈ js, x.1 < qs.length ∧ kdL (base.getD x.1 ins0).code = true) → (∀ i, i < base.length → OneOf n (base.getD i ins0) (qs.getD i ins0)) → joR f js qs = .ok l → l.length = base.length ∧ ∀ i, i < base.length → OneOf n (base.getD i ins0) (l.getD i ins0)
  | [], qs, l, hl, _, ho, h => by
    have h : Except.ok qs = Except.ok l := h
    injection h with h
    subst h; exact ⟨hl, ho⟩
  | x :: r, qs, l, hl, hj, ho, h => by
    have h : (match f x.2.t with | none => (Except.error (107, x.2.ln, x.2.col) : Except Flt (List Ins)) | some v => joR f r (qs.set x.1 { qs.getD x.1 ins0 with to := (v : Int) })) = Except.ok l := h
    cases e : f x.2.t with
    | none => rw [e] at h; cases h
    | some v =>
      rw [e] at h
      obtain ⟨h1, h2⟩ := hj x (by simp)
      refine jo_can f n base hf r _ l (by rw [List.length_set]; exact hl) (fun y hy => by rw [List.length_set]; exact hj y (by simp [hy])) (fun i hi => ?_) h
      by_cases g : x.1 = i
      · subst g
        obtain ⟨t, e1, _⟩ := ho x.1 hi
        rw [List.getD_eq_getElem?_getD (l := qs.set _ _), List.getElem?_set_self h1]
        refine ⟨(v : Int), ?_, ?_⟩
        · show ({ qs.getD x.1 ins0 with to := (v : Int) } : Ins) = _
          rw [e1]
        · rw [if_pos h2]
          have := hf _ _ e
          omega
      · have : (qs.set x.1 { qs.getD x.1 ins0 with to := (v : Int) }).getD i ins0 = qs.getD i ins0 := by
          rw [List.getD_eq_getElem?_getD, List.getElem?_set_ne g, List.getD_eq_getElem?_getD]
        rw [this]; exact ho i hi
/-- What is read passes the check. -/
theorem prs_can {s : ByteArray} {l : List Ins} (h : prsR s = .ok l) : l.length ≤ 64 ∧ ∀ q ∈ l, q.can (l.length : Int) = true ∧ n64 q := by
  unfold prsR at h
  split at h
  · cases h
  · cases e : rdR (lns s) 0 ⟨[], 0, fun _ => none, []⟩ with
    | error f => rw [e] at h; cases h
    | ok st =>
      rw [e] at h
      have h : joR st.f st.js st.qs = .ok l := h
      have hs := rd_can _ _ _ _ { le := by simp, cz := fun q hq => absurd hq (by simp), js := fun x hx => absurd hx (by simp), f := fun t v hv => absurd hv (by simp) } e
      have hb : ∀ i, i < st.qs.length → OneOf st.qs.length (st.qs.getD i ins0) (st.qs.getD i ins0) := fun i hi => by
        have hm : st.qs.getD i ins0 ∈ st.qs := by rw [List.getD_eq_getElem?_getD, List.getElem?_eq_getElem hi]; exact List.getElem_mem hi
        have hz := (hs.cz _ hm).to
        refine ⟨0, ?_, ?_⟩
        · rw [← hz]
        · split
          · exact ⟨Int.le_refl _, by omega⟩
          · rfl
      obtain ⟨h1, h2⟩ := jo_can st.f st.qs.length st.qs hs.f st.js st.qs l rfl hs.js hb h
      refine ⟨by rw [h1]; exact hs.le, fun q hq => ?_⟩
      obtain ⟨i, hi, rfl⟩ := List.mem_iff_getElem.1 hq
      obtain ⟨t, e1, e2⟩ := h2 i (by omega)
      have g1 : l.getD i ins0 = l[i] := by rw [List.getD_eq_getElem?_getD, List.getElem?_eq_getElem hi]; rfl
      rw [g1] at e1
      have hm : st.qs.getD i ins0 ∈ st.qs := by rw [List.getD_eq_getElem?_getD, List.getElem?_eq_getElem (show i < st.qs.length by omega)]; exact List.getElem_mem _
      have hc := hs.cz _ hm
      rw [e1, h1]
      exact ⟨hc.can _ _ e2, hc.n64⟩
/-! A fault's line. -/
def okQ (p : Pc) : Prop := 0 < p.ln ∧ 0 ≤ p.col
def okG (e : Flt) : Prop := e.1 ≠ 0 ∧ e.1 ≠ 100 ∧ 0 < e.2.1 ∧ 0 ≤ e.2.2
theorem okG_of {p : Pc} (h : okQ p) (c : Int) (hc : c ≠ 0) (hc2 : c ≠ 100) : okG (c, p.ln, p.col) := ⟨hc, hc2, h.1, h.2⟩
def okJ : Except Flt (Ins × List Pc) → Prop
  | .error e => okG e
  | .ok (_, l) => ∀ p ∈ l, okQ p
theorem fls_okG : ∀ (ss : List Int) (u : Ins) (pv : Pc) (ps acc : List Pc), okQ pv → (∀ p ∈ ps, okQ p) → (∀ p ∈ acc, okQ p) → okJ (fls u ss pv ps acc)
  | [], u, pv, [], acc, _, _, h => h
  | [], u, pv, p :: ps, acc, _, h, _ => okG_of (h p (by simp)) 104 (by decide) (by decide)
  | s :: ss, u, pv, [], acc, h, _, _ => by
    obtain ⟨h1, h2⟩ := h
    refine ⟨show (102 : Int) ≠ 0 by decide, show (102 : Int) ≠ 100 by decide, h1, ?_⟩
    show 0 ≤ pv.col + (pv.t.size : Int); omega
  | s :: ss, u, pv, p :: ps, acc, _, h, ha => by
    have hp := h p (by simp)
    have hr : ∀ q ∈ ps, okQ q := fun q hq => h q (by simp [hq])
    rw [fls]
    by_cases e : s = 6
    · rw [if_pos e]
      by_cases g : nmB p.t = true
      · rw [if_pos g]
        refine fls_okG ss u p ps _ hp hr (fun q hq => ?_)
        rcases List.mem_append.1 hq with hq | hq
        · exact ha q hq
        · have : q = p := by simpa using hq
          rw [this]; exact hp
      · rw [if_neg g]; exact okG_of hp 103 (by decide) (by decide)
    · rw [if_neg e]
      cases fil u s p.t with
      | none => exact okG_of hp 103 (by decide) (by decide)
      | some u' => exact fls_okG ss u' p ps acc hp hr ha
theorem insR_okG (m : Nat) (p : Pc) (r : List Pc) (h : ∀ q ∈ p :: r, okQ q) : okJ (insR m (p :: r)) := by
  have hp := h p (by simp)
  rw [insR]
  cases nmd p.t with
  | none => exact okG_of hp 101 (by decide) (by decide)
  | some q =>
    show okJ (if m = 64 then _ else _)
    by_cases e : m = 64
    · rw [if_pos e]; exact okG_of hp 106 (by decide) (by decide)
    · rw [if_neg e]; exact fls_okG _ _ _ _ _ hp (fun q hq => h q (by simp [hq])) (fun q hq => by cases hq)
def okY : Except Flt Sx → Prop
  | .error e => okG e
  | .ok s => ∀ x ∈ s.js, okQ x.2
theorem lnR_okG : ∀ (ps : List Pc) (s : Sx), (∀ p ∈ ps, okQ p) → (∀ x ∈ s.js, okQ x.2) → okY (lnR ps s)
  | [], s, _, h => h
  | p :: r, s, h, hj => by
    have hp := h p (by simp)
    rw [lnR]
    by_cases e : Lib.hasSuffix p.t.data.toList [58] = true
    · rw [if_pos e]
      by_cases g : nmB (lab p.t) = true
      · rw [if_pos g]
        cases s.f (lab p.t) with
        | some v => exact okG_of hp 105 (by decide) (by decide)
        | none => exact lnR_okG r _ (fun q hq => h q (by simp [hq])) hj
      · rw [if_neg g]; exact okG_of hp 101 (by decide) (by decide)
    · rw [if_neg e]
      have hi := insR_okG s.qs.length p r h
      cases hh : insR s.qs.length (p :: r) with
      | error e => rw [hh] at hi; exact hi
      | ok x =>
        obtain ⟨q, ps⟩ := x
        rw [hh] at hi
        have hi : ∀ p ∈ ps, okQ p := hi
        intro x hx
        have hx : x ∈ s.js ++ ps.map (fun p => (s.qs.length, p)) := hx
        rcases List.mem_append.1 hx with hx | hx
        · exact hj x hx
        · obtain ⟨y, hy, rfl⟩ := List.mem_map.1 hx
          exact hi y hy
theorem rdR_okG : ∀ (ls : List ByteArray) (i : Nat) (s : Sx), (∀ x ∈ s.js, okQ x.2) → okY (rdR ls i s)
  | [], i, s, h => h
  | z :: ls, i, s, hj => by
    show okY (match lnR (wds z ((i : Int) + 1)) s with | .error e => (Except.error e : Except Flt Sx) | .ok s' => rdR ls (i + 1) s')
    have hl := lnR_okG (wds z ((i : Int) + 1)) s (fun p hp => by
      have h1 := (wds_ne z ((i : Int) + 1) p hp).2
      have h2 := wdf_col (bare z) ((i : Int) + 1) ((bare z).size + 1) 0 (by omega) p hp
      exact ⟨by omega, h2.1⟩) hj
    cases hh : lnR (wds z ((i : Int) + 1)) s with
    | error e => rw [hh] at hl; exact hl
    | ok s' => rw [hh] at hl; exact rdR_okG ls (i + 1) s' hl
theorem joR_okG (f : ByteArray → Option Nat) : ∀ (js : List (Nat × Pc)) (qs : List Ins), (∀ x ∈ js, okQ x.2) → ∀ e, joR f js qs = .error e → okG e
  | [], qs, _, e, h => by cases h
  | x :: r, qs, hj, e, h => by
    have h : (match f x.2.t with | none => (Except.error (107, x.2.ln, x.2.col) : Except Flt (List Ins)) | some v => joR f r (qs.set x.1 { qs.getD x.1 ins0 with to := (v : Int) })) = Except.error e := h
    cases hh : f x.2.t with
    | none =>
      rw [hh] at h
      injection h with h
      rw [← h]
      exact okG_of (hj x (by simp)) 107 (by decide) (by decide)
    | some v =>
      rw [hh] at h
      exact joR_okG f r _ (fun y hy => hj y (by simp [hy])) e h
theorem prs_err {s : ByteArray} {e : Flt} (h : prsR s = .error e) : e = (100, 0, 0) ∨ okG e := by
  unfold prsR at h
  split at h
  · injection h with h
    exact .inl h.symm
  · have hr := rdR_okG (lns s) 0 ⟨[], 0, fun _ => none, []⟩ (fun x hx => absurd hx (by simp))
    cases e : rdR (lns s) 0 ⟨[], 0, fun _ => none, []⟩ with
    | error f =>
      rw [e] at h hr
      injection h with h
      subst h
      exact .inr hr
    | ok st =>
      rw [e] at h hr
      exact .inr (joR_okG st.f st.js st.qs hr _ h)
end Go.Proofs.YtdmfkepnopppaaaGreatDoor
