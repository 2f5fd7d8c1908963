import Derived.Test.YtclednbclgkdaaaDoorLcA
namespace Go.Proofs.YtclednbclgkdaaaDoor
open Go.RowKit
/-- A word one column on. -/
def Pc.sh (p : Pc) : Pc := { p with col := p.col + 1 }
def shF (f : Flt) : Flt := (f.1, f.2.1, f.2.2 + 1)
def shI : Except Flt (Ins × List Pc) → Except Flt (Ins × List Pc)
  | .error e => .error (shF e)
  | .ok (q, l) => .ok (q, l.map Pc.sh)
theorem fls_sh : ∀ (ss : List Int) (u : Ins) (pv : Pc) (ps acc : List Pc), fls u ss pv.sh (ps.map Pc.sh) (acc.map Pc.sh) = shI (fls u ss pv ps acc)
  | [], u, pv, [], acc => rfl
  | [], u, pv, p :: ps, acc => rfl
  | s :: ss, u, pv, [], acc => by
    show Except.error (102, pv.ln, pv.col + 1 + (pv.t.size : Int)) = Except.error (102, pv.ln, pv.col + (pv.t.size : Int) + 1)
    rw [Int.add_right_comm]
  | s :: ss, u, pv, p :: ps, acc => by
    show (if s = 6 then (if nmB p.t = true then fls u ss p.sh (ps.map Pc.sh) (acc.map Pc.sh ++ [p.sh]) else .error (103, p.ln, p.col + 1)) else match fil u s p.t with
      | none => .error (103, p.ln, p.col + 1)
      | some u' => fls u' ss p.sh (ps.map Pc.sh) (acc.map Pc.sh)) = shI (if s = 6 then (if nmB p.t = true then fls u ss p ps (acc ++ [p]) else .error (103, p.ln, p.col)) else match fil u s p.t with
      | none => .error (103, p.ln, p.col)
      | some u' => fls u' ss p ps acc)
    by_cases h : s = 6
    · rw [if_pos h, if_pos h]
      by_cases g : nmB p.t = true
      · rw [if_pos g, if_pos g, ← fls_sh ss u p ps (acc ++ [p]), List.map_append]
        rfl
      · rw [if_neg g, if_neg g]; rfl
    · rw [if_neg h, if_neg h]
      cases fil u s p.t with
      | none => rfl
      | some u' => exact fls_sh ss u' p ps acc
theorem insR_sh (m : Nat) (p : Pc) (r : List Pc) : insR m ((p :: r).map Pc.sh) = shI (insR m (p :: r)) := by
  show (match nmd p.t with
    | none => .error (101, p.ln, p.col + 1)
    | some q => if m = 64 then .error (106, p.ln, p.col + 1) else fls q (slo q.code.toNat) p.sh (r.map Pc.sh) []) = shI (match nmd p.t with
    | none => .error (101, p.ln, p.col)
    | some q => if m = 64 then .error (106, p.ln, p.col) else fls q (slo q.code.toNat) p r [])
  cases nmd p.t with
  | none => rfl
  | some q =>
    show (if m = 64 then _ else _) = shI (if m = 64 then _ else _)
    by_cases h : m = 64
    · rw [if_pos h, if_pos h]; rfl
    · rw [if_neg h, if_neg h]
      exact fls_sh (slo q.code.toNat) q p r []
def shJ (x : Nat × Pc) : Nat × Pc := (x.1, x.2.sh)
def Sx.sh (s : Sx) : Sx := { s with js := s.js.map shJ }
def shX : Except Flt Sx → Except Flt Sx
  | .error e => .error (shF e)
  | .ok s => .ok s.sh
theorem lnR_sh : ∀ (ps : List Pc) (s : Sx), lnR (ps.map Pc.sh) s.sh = shX (lnR ps s)
  | [], s => rfl
  | p :: r, s => by
    show (if Lib.hasSuffix p.t.data.toList [58] = true then
      (if nmB (lab p.t) = true then match s.f (lab p.t) with
        | some _ => .error (105, p.ln, p.col + 1)
        | none => lnR (r.map Pc.sh) ({ s with n := s.n + 1, f := upd s.f (lab p.t) (some s.qs.length) } : Sx).sh
      else .error (101, p.ln, p.col + 1))
    else match insR s.qs.length ((p :: r).map Pc.sh) with
      | .error e => .error e
      | .ok (q, ps) => .ok { s.sh with qs := s.qs ++ [q], js := s.js.map shJ ++ ps.map (fun p => (s.qs.length, p)) }) = shX (if Lib.hasSuffix p.t.data.toList [58] = true then
      (if nmB (lab p.t) = true then match s.f (lab p.t) with
        | some _ => .error (105, p.ln, p.col)
        | none => lnR r { s with n := s.n + 1, f := upd s.f (lab p.t) (some s.qs.length) }
      else .error (101, p.ln, p.col))
    else match insR s.qs.length (p :: r) with
      | .error e => .error e
      | .ok (q, ps) => .ok { s with qs := s.qs ++ [q], js := s.js ++ ps.map (fun p => (s.qs.length, p)) })
    by_cases h : Lib.hasSuffix p.t.data.toList [58] = true
    · rw [if_pos h, if_pos h]
      by_cases g : nmB (lab p.t) = true
      · rw [if_pos g, if_pos g]
        cases s.f (lab p.t) with
        | some v => rfl
        | none => exact lnR_sh r _
      · rw [if_neg g, if_neg g]; rfl
    · rw [if_neg h, if_neg h, insR_sh]
      cases insR s.qs.length (p :: r) with
      | error e => rfl
      | ok x =>
        obtain ⟨q, ps⟩ := x
        show Except.ok _ = Except.ok _
        refine congrArg Except.ok ?_
        show (⟨s.qs ++ [q], s.n, s.f, s.js.map shJ ++ (ps.map Pc.sh).map (fun p => (s.qs.length, p))⟩ : Sx) = ⟨s.qs ++ [q], s.n, s.f, (s.js ++ ps.map (fun p => (s.qs.length, p))).map shJ⟩
        rw [List.map_append, List.map_map, List.map_map]
        rfl
/-- Lines whose words are one column on. -/
def LS : List ByteArray → List ByteArray → Prop
  | [], [] => True
  | a :: l, b :: m => (∀ n, wds b n = (wds a n).map Pc.sh) ∧ LS l m
  | _, _ => False
theorem rdR_sh : ∀ (l m : List ByteArray) (i : Nat) (s : Sx), LS l m → rdR m i s.sh = shX (rdR l i s)
  | [], [], i, s, _ => rfl
  | a :: l, b :: m, i, s, h => by
    show (match lnR (wds b ((i : Int) + 1)) s.sh with | .error e => .error e | .ok s' => rdR m (i + 1) s') = shX (match lnR (wds a ((i : Int) + 1)) s with | .error e => .error e | .ok s' => rdR l (i + 1) s')
    rw [h.1, lnR_sh]
    cases lnR (wds a ((i : Int) + 1)) s with
    | error e => rfl
    | ok s' => exact rdR_sh l m (i + 1) s' h.2
  | [], b :: m, i, s, h => h.elim
  | a :: l, [], i, s, h => h.elim
def shL : Except Flt (List Ins) → Except Flt (List Ins)
  | .error e => .error (shF e)
  | .ok s => .ok s
theorem joR_sh (f : ByteArray → Option Nat) : ∀ (js : List (Nat × Pc)) (qs : List Ins), joR f (js.map shJ) qs = shL (joR f js qs)
  | [], qs => rfl
  | x :: r, qs => by
    show (match f x.2.t with | none => .error (107, x.2.ln, x.2.col + 1) | some v => joR f (r.map shJ) (qs.set x.1 { qs.getD x.1 ins0 with to := (v : Int) })) = shL (match f x.2.t with | none => .error (107, x.2.ln, x.2.col) | some v => joR f r (qs.set x.1 { qs.getD x.1 ins0 with to := (v : Int) }))
    cases f x.2.t with
    | none => rfl
    | some v => exact joR_sh f r _
theorem prsR_sh {s d : ByteArray} (hs : s.size ≤ 4096) (hd : d.size ≤ 4096) (h : LS (lns s) (lns d)) : prsR d = shL (prsR s) := by
  unfold prsR
  rw [if_neg (by omega), if_neg (by omega)]
  have e := rdR_sh (lns s) (lns d) 0 ⟨[], 0, fun _ => none, []⟩ h
  have e0 : (⟨[], 0, fun _ => none, []⟩ : Sx).sh = ⟨[], 0, fun _ => none, []⟩ := rfl
  rw [e0] at e
  rw [e]
  cases rdR (lns s) 0 ⟨[], 0, fun _ => none, []⟩ with
  | error e => rfl
  | ok st => exact joR_sh st.f st.js st.qs
/-- A line with its remark off, sign by sign. -/
theorem cut_tw : ∀ (l : List UInt8), (Lib.cut l [35]).1 = l.takeWhile (fun c => c != 35)
  | [] => rfl
  | c :: r => by
    have ih := cut_tw r
    unfold Lib.cut at ih ⊢
    have hge := Lib.index_ge r [35]
    by_cases h : c = 35
    · subst h
      have hix : Lib.index (35 :: r) [35] = 0 := by rw [Lib.index]; simp [List.isPrefixOf]
      rw [hix]
      rfl
    · have hp : ([35] : List UInt8).isPrefixOf (c :: r) = false := by simp [List.isPrefixOf, Ne.symm h]
      have hix : Lib.index (c :: r) [35] = if Lib.index r [35] == -1 then -1 else Lib.index r [35] + 1 := by rw [Lib.index, hp]; simp
      have ht : List.takeWhile (fun c => c != 35) (c :: r) = c :: r.takeWhile (fun c => c != 35) := by rw [List.takeWhile_cons_of_pos (by simpa using h)]
      rw [hix, ht, ← ih]
      by_cases hm : Lib.index r [35] = -1
      · rw [hm]
        rfl
      · obtain ⟨j, hj⟩ : ∃ j : Nat, Lib.index r [35] = j := ⟨(Lib.index r [35]).toNat, by omega⟩
        rw [hj]
        have b1 : ((j : Int) == -1) = false := beq_eq_false_iff_ne.2 (by omega)
        rw [b1]
        simp only [Bool.false_eq_true, if_false]
        rw [if_pos (by omega), if_pos (by omega)]
        have e1 : ((j : Int) + 1).toNat = j + 1 := by omega
        rw [e1, Int.toNat_natCast]
        rfl
theorem stp_sh {b d : ByteArray} {pad : List UInt8} (hd : d.data.toList = 9 :: (b.data.toList ++ pad)) (hp : ∀ c ∈ pad, blk c = true) : ∀ (n i : Nat), i + n = b.size → stp d (n + pad.length) (i + 1) = stp b n i + 1
  | 0, i, h => by
    rw [Nat.zero_add]
    cases pad with
    | nil => rfl
    | cons c p =>
      show (if blk (d.data.toList.getD (i + 1) 0) = true then i + 1 else _) = i + 1
      rw [if_pos]
      rw [hd]
      have hl : b.data.toList.length = b.size := by simp
      rw [List.getD_cons_succ, List.getD_eq_getElem?_getD, List.getElem?_append_right (by omega), show i - b.data.toList.length = 0 by omega]
      exact hp c (by simp)
  | n + 1, i, h => by
    have hl : b.data.toList.length = b.size := by simp
    have e : d.data.toList.getD (i + 1) 0 = b.data.toList.getD i 0 := by
      rw [hd, List.getD_cons_succ, List.getD_eq_getElem?_getD, List.getElem?_append_left (by omega), List.getD_eq_getElem?_getD]
    rw [show n + 1 + pad.length = (n + pad.length) + 1 by omega]
    unfold stp
    rw [e]
    by_cases g : blk (b.data.toList.getD i 0) = true
    · rw [if_pos g, if_pos g]
    · rw [if_neg g, if_neg g]
      exact stp_sh hd hp n (i + 1) (by omega)
theorem wdf_blank {d : ByteArray} (num : Int) : ∀ (M j : Nat), (∀ i, j ≤ i → i < d.size → blk (d.data.toList.getD i 0) = true) → wdf d num M j = []
  | 0, j, h => rfl
  | M + 1, j, h => by
    unfold wdf
    by_cases g : j < d.size
    · rw [if_pos g]
      obtain ⟨k, hk⟩ : ∃ k, d.size - j = k + 1 := ⟨d.size - j - 1, by omega⟩
      have e : stp d (d.size - j) j = j := by
        rw [hk]
        show (if blk (d.data.toList.getD j 0) = true then j else _) = j
        rw [if_pos (h j (Nat.le_refl _) g)]
      rw [e, if_neg (Nat.lt_irrefl _), wdf_blank num M (j + 1) (fun i h1 h2 => h i (by omega) h2)]
      rfl
    · rw [if_neg g]
theorem ext_sh {b d : ByteArray} {pad : List UInt8} (hd : d.data.toList = 9 :: (b.data.toList ++ pad)) (i j : Nat) (hij : i ≤ j) (hj : j ≤ b.size) : d.extract (i + 1) (j + 1) = b.extract i j := by
  have hl : b.data.toList.length = b.size := by simp
  apply ba_ext
  rw [ByteArray.data_extract, ByteArray.data_extract, Array.toList_extract, Array.toList_extract, hd]
  rw [List.extract_eq_take_drop, List.extract_eq_take_drop]
  rw [List.drop_succ_cons, show j + 1 - (i + 1) = j - i by omega, List.drop_append_of_le_length (by omega), List.take_append_of_le_length (by rw [List.length_drop]; omega)]
theorem wdf_sh {b d : ByteArray} {pad : List UInt8} (hd : d.data.toList = 9 :: (b.data.toList ++ pad)) (hp : ∀ c ∈ pad, blk c = true) (num : Int) : ∀ (n M i : Nat), b.size < n + i → d.size < M + (i + 1) → wdf d num M (i + 1) = (wdf b num n i).map Pc.sh := by
  have hl : b.data.toList.length = b.size := by simp
  have hdl : d.data.toList.length = d.size := by simp
  have hds : d.size = b.size + pad.length + 1 := by rw [← hdl, hd]; simp
  have far : ∀ (n M i : Nat), b.size ≤ i → wdf d num M (i + 1) = (wdf b num n i).map Pc.sh := fun n M i h => by
    have e : wdf b num n i = [] := by
      cases n with
      | zero => rfl
      | succ n => unfold wdf; rw [if_neg (by omega)]
    rw [e]
    refine wdf_blank num M (i + 1) (fun k h1 h2 => ?_)
    rw [hd]
    obtain ⟨k, rfl⟩ : ∃ k', k = k' + 1 := ⟨k - 1, by omega⟩
    rw [List.getD_cons_succ, List.getD_eq_getElem?_getD, List.getElem?_append_right (by omega)]
    have hlt : k - b.data.toList.length < pad.length := by omega
    rw [List.getElem?_eq_getElem hlt]
    exact hp _ (List.getElem_mem hlt)
  intro n
  induction n with
  | zero => intro M i h _; exact far 0 M i (by omega)
  | succ n ih =>
    intro M i h1 h2
    by_cases g : b.size ≤ i
    · exact far _ M i g
    · obtain ⟨M, rfl⟩ : ∃ M', M = M' + 1 := ⟨M - 1, by omega⟩
      have hs := stp_sh hd hp (b.size - i) i (by omega)
      have hsz : d.size - (i + 1) = b.size - i + pad.length := by omega
      have hb := stp_ge b (b.size - i) i
      rw [show wdf d num (M + 1) (i + 1) = (if i + 1 < d.size then (if i + 1 < stp d (d.size - (i + 1)) (i + 1) then [⟨d.extract (i + 1) (stp d (d.size - (i + 1)) (i + 1)), num, ((i + 1 : Nat) : Int) + 1⟩] else []) ++ wdf d num M (stp d (d.size - (i + 1)) (i + 1) + 1) else []) from rfl]
      rw [show wdf b num (n + 1) i = (if i < b.size then (if i < stp b (b.size - i) i then [⟨b.extract i (stp b (b.size - i) i), num, (i : Int) + 1⟩] else []) ++ wdf b num n (stp b (b.size - i) i + 1) else []) from rfl]
      rw [hsz, hs, if_pos (show i + 1 < d.size by omega), if_pos (show i < b.size by omega), List.map_append, ih M (stp b (b.size - i) i + 1) (by omega) (by omega)]
      congr 1
      by_cases e : i < stp b (b.size - i) i
      · rw [if_pos e, if_pos (show i + 1 < stp b (b.size - i) i + 1 by omega), ext_sh hd i _ (by omega) (by omega)]
        simp [Pc.sh]
      · rw [if_neg e, if_neg (show ¬ (i + 1 < stp b (b.size - i) i + 1) by omega)]; rfl
theorem tw_self {p : UInt8 → Bool} : ∀ (l : List UInt8), l.takeWhile p = l ↔ ∀ c ∈ l, p c = true
  | [] => by simp
  | c :: r => by
    have ih := tw_self (p := p) r
    by_cases h : p c = true
    · rw [List.takeWhile_cons_of_pos h]
      simp [ih, h]
    · rw [List.takeWhile_cons_of_neg h]
      simp [h]
/-- What is laid behind a line. -/
def e1 : List UInt8 := [32, 32, 35, 32, 255]
def e2 : List UInt8 := [32, 9, 32, 35, 32, 120, 58, 32, 113, 117, 105, 116]
theorem wds_dress {a d : ByteArray} (h : d.data.toList = 9 :: (a.data.toList ++ e1) ∨ d.data.toList = 9 :: (a.data.toList ++ e2)) (n : Int) : wds d n = (wds a n).map Pc.sh := by
  have hb : ∀ (x : ByteArray), (bare x).data.toList = x.data.toList.takeWhile (fun c => c != 35) := fun x => by
    show (Lib.cut x.data.toList [35]).1.toArray.toList = _
    rw [cut_tw]
  have key : ∃ pad : List UInt8, (bare d).data.toList = 9 :: ((bare a).data.toList ++ pad) ∧ ∀ c ∈ pad, blk c = true := by
    rw [hb, hb]
    by_cases hc : ∀ c ∈ a.data.toList, (c != 35) = true
    · have ha : a.data.toList.takeWhile (fun c => c != 35) = a.data.toList := (tw_self _).2 hc
      rw [ha]
      rcases h with h | h
      · refine ⟨[32, 32], ?_, by decide⟩
        rw [h, List.takeWhile_cons_of_pos (by decide), List.takeWhile_append_of_pos hc]
        rfl
      · refine ⟨[32, 9, 32], ?_, by decide⟩
        rw [h, List.takeWhile_cons_of_pos (by decide), List.takeWhile_append_of_pos hc]
        rfl
    · have hne : (a.data.toList.takeWhile (fun c => c != 35)).length ≠ a.data.toList.length := fun e => by
        apply hc
        have hpre := List.takeWhile_prefix (fun c : UInt8 => c != 35) (l := a.data.toList)
        have := hpre.eq_of_length e
        exact (tw_self _).1 this
      refine ⟨[], ?_, by simp⟩
      rw [List.append_nil]
      rcases h with h | h
      · rw [h, List.takeWhile_cons_of_pos (by decide), List.takeWhile_append, if_neg hne]
      · rw [h, List.takeWhile_cons_of_pos (by decide), List.takeWhile_append, if_neg hne]
  obtain ⟨pad, hd, hp⟩ := key
  unfold wds
  have hl : (bare d).data.toList.length = (bare d).size := by simp
  obtain ⟨k, hk⟩ : ∃ k, (bare d).size = k + 1 := ⟨(bare d).size - 1, by rw [hd] at hl; simp at hl; omega⟩
  have e0 : stp (bare d) ((bare d).size - 0) 0 = 0 := by
    rw [hk]
    show (if blk ((bare d).data.toList.getD 0 0) = true then 0 else _) = 0
    rw [hd]
    rfl
  rw [show wdf (bare d) n ((bare d).size + 1) 0 = (if 0 < (bare d).size then (if 0 < stp (bare d) ((bare d).size - 0) 0 then [⟨(bare d).extract 0 (stp (bare d) ((bare d).size - 0) 0), n, ((0 : Nat) : Int) + 1⟩] else []) ++ wdf (bare d) n (bare d).size (stp (bare d) ((bare d).size - 0) 0 + 1) else []) from rfl]
  rw [e0, if_pos (by omega), if_neg (Nat.lt_irrefl _), List.nil_append]
  exact wdf_sh hd hp n ((bare a).size + 1) _ 0 (by omega) (by omega)
/-- The dressed text, behind its first sign. -/
def dpre : List UInt8 → List UInt8
  | [] => []
  | c :: r => (if c = 10 then e2 ++ [10, 9] else [c]) ++ dpre r
def dq : List (List UInt8) → List (List UInt8)
  | [] => []
  | [h] => [h ++ e1]
  | h :: a :: t => (h ++ e2) :: hd 9 (dq (a :: t))
theorem dq_cons (l : List (List UInt8)) : l ≠ [] → dq l ≠ [] := by
  cases l with
  | nil => exact fun h => h
  | cons a t => cases t <;> simp [dq]
theorem hd_dq (c : UInt8) (l : List (List UInt8)) (h : l ≠ []) : hd c (dq l) = dq (hd c l) := by
  cases l with
  | nil => exact absurd rfl h
  | cons a t => cases t <;> rfl
theorem sp_e2 (r : List UInt8) : sp (e2 ++ 10 :: r) = e2 :: sp r := by
  simp [e2, sp]
theorem sp_dress : ∀ (l : List UInt8), sp (dpre l ++ e1) = dq (sp l)
  | [] => by simp [dpre, sp, dq, e1]
  | c :: r => by
    have ih := sp_dress r
    obtain ⟨a, b, hab⟩ := sp_cons r
    by_cases h : c = 10
    · subst h
      rw [sp_nl, show dpre (10 :: r) ++ e1 = e2 ++ 10 :: 9 :: (dpre r ++ e1) by simp [dpre], sp_e2, sp_ne (by decide), ih, hab]
      rfl
    · rw [sp_ne h, show dpre (c :: r) ++ e1 = c :: (dpre r ++ e1) by simp [dpre, h], sp_ne h, ih, hd_dq _ _ (by rw [hab]; simp)]
theorem ls_dq : ∀ (l m : List ByteArray), m.map (·.data.toList) = hd 9 (dq (l.map (·.data.toList))) → l ≠ [] → LS l m
  | [], m, _, h => absurd rfl h
  | [a], m, h, _ => by
    have h : m.map (·.data.toList) = [9 :: (a.data.toList ++ e1)] := h
    cases m with
    | nil => cases h
    | cons x y => cases y with
      | nil =>
        injection h with h1 _
        exact ⟨fun n => wds_dress (.inl h1) n, trivial⟩
      | cons z w => injection h with _ h2; cases h2
  | a :: b :: t, m, h, _ => by
    have h : m.map (·.data.toList) = (9 :: (a.data.toList ++ e2)) :: hd 9 (dq ((b :: t).map (·.data.toList))) := h
    cases m with
    | nil => cases h
    | cons x y =>
      injection h with h1 h2
      exact ⟨fun n => wds_dress (.inr h1) n, ls_dq (b :: t) y h2 (by simp)⟩
theorem dress_main {s d : ByteArray} (hd : d.data.toList = 9 :: (dpre s.data.toList ++ e1)) (hz : d.size ≤ 4096) : s.size ≤ 4096 ∧ prsR d = shL (prsR s) := by
  have hlen : ∀ l : List UInt8, l.length ≤ (dpre l).length := fun l => by
    induction l with
    | nil => exact Nat.le_refl _
    | cons c r ih =>
      show _ ≤ ((if c = 10 then e2 ++ [10, 9] else [c]) ++ dpre r).length
      rw [List.length_append, List.length_cons]
      have : 1 ≤ (if c = 10 then e2 ++ [10, 9] else [c] : List UInt8).length := by split <;> simp [e2]
      omega
  have hs : s.size ≤ 4096 := by
    have h1 : s.data.toList.length = s.size := by simp
    have h2 : d.data.toList.length = d.size := by simp
    have h3 := hlen s.data.toList
    rw [hd, List.length_cons, List.length_append] at h2
    omega
  refine ⟨hs, prsR_sh hs hz (ls_dq _ _ ?_ ?_)⟩
  · rw [lns_sp, lns_sp, hd, sp_ne (by decide), sp_dress]
  · intro e
    have := lns_sp s
    rw [e] at this
    obtain ⟨a, b, hab⟩ := sp_cons s.data.toList
    rw [hab] at this
    cases this
theorem dpre_app (l m : List UInt8) : dpre (l ++ m) = dpre l ++ dpre m := by
  induction l with
  | nil => rfl
  | cons c r ih =>
    show (if c = 10 then e2 ++ [10, 9] else [c]) ++ dpre (r ++ m) = ((if c = 10 then e2 ++ [10, 9] else [c]) ++ dpre r) ++ dpre m
    rw [ih, List.append_assoc]
theorem dpre_one (c : UInt8) : dpre [c] = if c = 10 then e2 ++ [10, 9] else [c] := by
  show (if c = 10 then e2 ++ [10, 9] else [c]) ++ [] = _
  rw [List.append_nil]
end Go.Proofs.YtclednbclgkdaaaDoor
