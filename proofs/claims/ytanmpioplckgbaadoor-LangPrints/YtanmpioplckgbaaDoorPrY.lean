import Derived.Test.YtanmpioplckgbaaDoorLgI
import Derived.Test.YtanmpioplckgbaaDoorRoundFacts
import Derived.Below
import Derived.Lib.SmallJoins
import Derived.Lib.Split
import Derived.Lib.SplitLaws
import Derived.Lib.CountLaws
import Derived.Lib.IndexMore
import Derived.Lib.Join
import Derived.Lib.SlicesCompact
import Derived.Lib.Strings
namespace Go.Proofs.YtanmpioplckgbaaDoor
open Go.RowKit
theorem Keeps.ofBelow {w w' : World} (h : Below w.heap.size w w') : Keeps (fun _ => False) w w' := ⟨h.os, h.tape, h.output, h.size, fun k hk _ => h.block k hk⟩

theorem wpList_append_run' {P : Program} {w : World} {ops : Array Oper} {rest : List Oper} {o : Oper} {a : Act} {Q : Exit → Act → World → Prop} (hgd : o.guard = none) (s x : Operand) (t : TypeId)
    (ho : o.op = .call { callee := .builtin .append, args := #[s, x], argTypes := #[t, t] }) (v src v' : Value) (w' : World) (hs : a.eval s = v) (hx : a.eval x = src)
    (hr : (Builtin.append_ #[t, t] o.type #[v, src]).run P w = .ok v' w') (h : wpList P ops Q rest (a.put o.dst v') w') : wpList P ops Q (o :: rest) a w :=
  wpList_plain hgd fun K hK => by
    unfold Oper.wp execOp
    simp only [ho, resolve, invoke, builtin, Sem.run_bind, Sem.run_pure, Result.andThen_ok, List.map_toArray, List.map_cons, List.map_nil, hs, hx, hr]
    exact hK _ _ h

/-- A word of a text, and where it stands. -/
structure Pc where
  t : ByteArray
  ln : Int
  col : Int

/-- A text without its first sign, if that is c. -/
def tp (t : ByteArray) (c : UInt8) : ByteArray := ⟨(Lib.trimPrefix t.data.toList [c]).toArray⟩

def hp (t : ByteArray) (c : UInt8) : Bool := Lib.hasPrefix t.data.toList [c]

def regN (t : ByteArray) : Int := prsV (tp t 114).toList

def regB (t : ByteArray) : Bool := hp t 114 && (prsE (tp t 114).toList == 0) && rg (regN t)

/-- A register or a number. -/
def src (t : ByteArray) : Option (Bool × Int) := if regB t = true then some (true, regN t) else if prsE t.toList = 0 then some (false, prsV t.toList) else none

def objO (t : ByteArray) : Option (Bool × Int) := if hp t 64 = true then src (tp t 64) else none

/-- The instructions' names, by their codes; Calc has none. -/
def shT (i : Nat) : ByteArray := ⟨(([#[], #[103, 101, 116], #[116, 97, 107, 101], #[112, 117, 116], #[100, 114, 111, 112], #[108, 101, 116], #[], #[105, 102], #[103, 111, 116, 111], #[113, 117, 105, 116], #[100, 111, 110, 101]] : List (Array UInt8)).getD i #[])⟩

/-- The shapes' names in memory. -/
def NT (w : World) : Prop := ∀ c, 1 ≤ c → c ≤ 10 → w.cell? ⟨0, c * 2, none⟩ = some (.string (shT c))

theorem NT.keep {w w' : World} (h : NT w) (k : Keeps (fun _ => False) w w') : NT w' := fun c h1 h2 => k.cell (h c h1 h2) (fun e => e)

/-- An instruction's beginning, by its name. -/
def nmd (t : ByteArray) : Option Ins := if look opT t 1 12 ≠ 0 then some { ins0 with code := 6, op := (look opT t 1 12 : Nat) } else if look shT t 1 10 ≠ 0 then some { ins0 with code := (look shT t 1 10 : Nat) } else none

/-- An instruction with one field more, as a slot says. -/
def fil (u : Ins) (s : Int) (t : ByteArray) : Option Ins :=
  if s = 1 then (if regB t = true then some { u with dst := regN t } else none)
  else if s = 2 then (objO t).map (fun x => { u with oR := x.1, oN := x.2 })
  else if s = 3 then (src t).map (fun x => { u with xR := x.1, xN := x.2 })
  else if s = 4 then (src t).map (fun x => { u with yR := x.1, yN := x.2 })
  else if s = 5 then (if look relT t 1 6 ≠ 0 then some { u with rel := (look relT t 1 6 : Nat) } else none)
  else none

def blk (c : UInt8) : Bool := c.toNat == 32 || c.toNat == 9

/-- Where the word that begins at i ends. -/
def stp (s : ByteArray) : Nat → Nat → Nat
  | 0, i => i
  | n + 1, i => if blk (s.data.toList.getD i 0) = true then i else stp s n (i + 1)

/-- A line's words, from i on. -/
def wdf (s : ByteArray) (num : Int) : Nat → Nat → List Pc
  | 0, _ => []
  | n + 1, i => if i < s.size then (if i < stp s (s.size - i) i then [⟨s.extract i (stp s (s.size - i) i), num, (i : Int) + 1⟩] else []) ++ wdf s num n (stp s (s.size - i) i + 1) else []

theorem stp_ge (s : ByteArray) : ∀ n i, i ≤ stp s n i ∧ stp s n i ≤ i + n
  | 0, i => ⟨Nat.le_refl _, Nat.le_refl _⟩
  | n + 1, i => by
    unfold stp
    split
    · exact ⟨Nat.le_refl _, by omega⟩
    · have := stp_ge s n (i + 1); omega

/-- A line without its remark. -/
def bare (s : ByteArray) : ByteArray := ⟨(Lib.cut s.data.toList [35]).1.toArray⟩

def wds (s : ByteArray) (num : Int) : List Pc := wdf (bare s) num ((bare s).size + 1) 0

theorem bare_size (s : ByteArray) : (bare s).size ≤ s.size := by
  show ((Lib.cut s.data.toList [35]).1.toArray).size ≤ s.data.size
  unfold Lib.cut
  split
  · simp
    omega
  · simp

/-- The lines of a text. -/
def lns (s : ByteArray) : List ByteArray := Lib.splitB ⟨#[10]⟩ 0 (Lib.countB s ⟨#[10]⟩) s

/-- A sign that a name may have at a place. -/
def chOk (t : ByteArray) (i : Nat) : Bool := (decide (97 ≤ (t.data.getD i 0).toNat) && decide ((t.data.getD i 0).toNat ≤ 122)) || (!(i == 0) && (decide (48 ≤ (t.data.getD i 0).toNat) && decide ((t.data.getD i 0).toNat ≤ 57)))

/-- A name. -/
def nmB (t : ByteArray) : Bool := !(t.size == 0) && decide (t.size ≤ 16) && (List.range t.size).all (chOk t)

abbrev Flt := Int × Int × Int
def upd (f : ByteArray → Option Nat) (t : ByteArray) (v : Option Nat) : ByteArray → Option Nat := fun x => if x = t then v else f x
/-- The operands of a line, one behind the other; and the words at which it jumps. -/
def fls : Ins → List Int → Pc → List Pc → List Pc → Except Flt (Ins × List Pc)
  | u, [], _, [], acc => .ok (u, acc)
  | _, [], _, p :: _, _ => .error (104, p.ln, p.col)
  | _, _ :: _, pv, [], _ => .error (102, pv.ln, pv.col + (pv.t.size : Int))
  | u, s :: ss, _, p :: ps, acc => if s = 6 then (if nmB p.t = true then fls u ss p ps (acc ++ [p]) else .error (103, p.ln, p.col)) else match fil u s p.t with
    | none => .error (103, p.ln, p.col)
    | some u' => fls u' ss p ps acc

/-- A line's instruction, behind so many. -/
def insR (m : Nat) : List Pc → Except Flt (Ins × List Pc)
  | [] => .error (0, 0, 0)
  | p :: r => match nmd p.t with
    | none => .error (101, p.ln, p.col)
    | some q => if m = 64 then .error (106, p.ln, p.col) else fls q (slo q.code.toNat) p r []

/-- What a reader holds. -/
structure Sx where
  qs : List Ins
  n : Nat
  f : ByteArray → Option Nat
  js : List (Nat × Pc)

/-- A label's name, out of its word. -/
def lab (t : ByteArray) : ByteArray := ⟨(Lib.trimSuffix t.data.toList [58]).toArray⟩

/-- A line's words. -/
def lnR : List Pc → Sx → Except Flt Sx
  | [], s => .ok s
  | p :: r, s => if Lib.hasSuffix p.t.data.toList [58] = true then
      (if nmB (lab p.t) = true then match s.f (lab p.t) with
        | some _ => .error (105, p.ln, p.col)
        | none => lnR r { s with n := s.n + 1, f := upd s.f (lab p.t) (some s.qs.length) }
      else .error (101, p.ln, p.col))
    else match insR s.qs.length (p :: r) with
      | .error e => .error e
      | .ok (q, ps) => .ok { s with qs := s.qs ++ [q], js := s.js ++ ps.map (fun p => (s.qs.length, p)) }

/-- A text's lines. -/
def rdR : List ByteArray → Nat → Sx → Except Flt Sx
  | [], _, s => .ok s
  | l :: ls, i, s => match lnR (wds l ((i : Int) + 1)) s with
    | .error e => .error e
    | .ok s' => rdR ls (i + 1) s'

theorem wdf_col (s : ByteArray) (num : Int) : ∀ n i, i ≤ s.size + 1 → ∀ p ∈ wdf s num n i, 0 ≤ p.col ∧ p.col ≤ (s.size : Int) + 1
  | 0, i, _ => fun p hp => by cases hp
  | n + 1, i, hi => by
    intro p hp
    unfold wdf at hp
    split at hp
    · rename_i hlt
      have hst := stp_ge s (s.size - i) i
      rcases List.mem_append.1 hp with hp | hp
      · split at hp
        · have hp : p = ⟨s.extract i (stp s (s.size - i) i), num, (i : Int) + 1⟩ := by simpa using hp
          rw [hp]
          simp only
          omega
        · cases hp
      · exact wdf_col s num n _ (by omega) p hp
    · cases hp

/-- The jumps get their places. -/
def joR (f : ByteArray → Option Nat) : List (Nat × Pc) → List Ins → Except Flt (List Ins)
  | [], qs => .ok qs
  | x :: r, qs => match f x.2.t with
    | none => .error (107, x.2.ln, x.2.col)
    | some v => joR f r (qs.set x.1 { qs.getD x.1 ins0 with to := (v : Int) })

/-- A text's program, or its fault. -/
def prsR (s : ByteArray) : Except Flt (List Ins) := if 4096 < s.size then .error (100, 0, 0) else match rdR (lns s) 0 ⟨[], 0, fun _ => none, []⟩ with
  | .error e => .error e
  | .ok st => joR st.f st.js st.qs

def prL (r : Except Flt (List Ins)) : List Ins := match r with | .ok l => l | .error _ => []

def prF (r : Except Flt (List Ins)) : Flt := match r with | .ok _ => (0, 0, 0) | .error f => f

def sp : List UInt8 → List (List UInt8)
  | [] => [[]]
  | c :: r => if c = 10 then [] :: sp r else match sp r with
    | h :: t => (c :: h) :: t
    | [] => [[c]]
def hd (c : UInt8) : List (List UInt8) → List (List UInt8)
  | h :: t => (c :: h) :: t
  | [] => [[c]]
theorem sp_ne {c : UInt8} {r : List UInt8} (h : c ≠ 10) : sp (c :: r) = hd c (sp r) := by
  show (if c = 10 then [] :: sp r else match sp r with | h :: t => (c :: h) :: t | [] => [[c]]) = _
  rw [if_neg h]
  cases sp r <;> rfl
theorem sp_nl (r : List UInt8) : sp (10 :: r) = [] :: sp r := by
  show (if (10 : UInt8) = 10 then [] :: sp r else _) = _
  rw [if_pos rfl]
theorem sp_cons (l : List UInt8) : ∃ h t, sp l = h :: t := by
  cases l with
  | nil => exact ⟨_, _, rfl⟩
  | cons c r =>
    by_cases h : c = 10
    · subst h; exact ⟨_, _, sp_nl r⟩
    · rw [sp_ne h]
      cases sp r with
      | nil => exact ⟨_, _, rfl⟩
      | cons a b => exact ⟨_, _, rfl⟩
theorem split_sp : ∀ (l : List UInt8) (k : Nat), l.count 10 = k → Lib.splitK [10] 0 k l = sp l
  | [], k, hk => by subst hk; rfl
  | c :: r, k, hk => by
    by_cases h : c = 10
    · subst h
      rw [List.count_cons_self] at hk
      subst hk
      have hix : Lib.index (10 :: r) [10] = 0 := by rw [Lib.index]; simp [List.isPrefixOf]
      unfold Lib.splitK
      rw [hix]
      rw [if_neg (by decide), sp_nl]
      have := split_sp r (r.count 10) rfl
      simp only [Int.toNat_zero, List.length_singleton, Nat.zero_add, List.take_zero, List.drop_succ_cons, List.drop_zero]
      rw [this]
    · rw [List.count_cons_of_ne (by simpa using h)] at hk
      have i := split_sp r k hk
      rw [sp_ne h, ← i]
      cases k with
      | zero => rfl
      | succ k =>
        have hp : ([10] : List UInt8).isPrefixOf (c :: r) = false := by simp [List.isPrefixOf, Ne.symm h]
        have hix : Lib.index (c :: r) [10] = if Lib.index r [10] == -1 then -1 else Lib.index r [10] + 1 := by rw [Lib.index, hp]; simp
        unfold Lib.splitK
        rw [hix]
        by_cases hm : Lib.index r [10] = -1
        · rw [hm]
          rfl
        · have hge := Lib.index_ge r [10]
          obtain ⟨j, hj⟩ : ∃ j : Nat, Lib.index r [10] = j := ⟨(Lib.index r [10]).toNat, by omega⟩
          rw [hj]
          have b1 : ((j : Int) == -1) = false := beq_eq_false_iff_ne.2 (by omega)
          have b2 : ((j : Int) + 1 == -1) = false := beq_eq_false_iff_ne.2 (by omega)
          rw [b1]
          simp only [Bool.false_eq_true, if_false]
          rw [b2]
          simp only [Bool.false_eq_true, if_false]
          have e1 : ((j : Int) + 1).toNat = j + 1 := by omega
          rw [e1, Int.toNat_natCast]
          rfl
theorem lns_sp (s : ByteArray) : (lns s).map (·.data.toList) = sp s.data.toList := by
  unfold lns
  rw [Lib.splitB_data]
  have hc : Lib.countB s ⟨#[10]⟩ = s.data.toList.count 10 := by
    rw [← Lib.count_one]
  rw [hc]
  exact split_sp _ _ rfl
theorem ba_ext {a b : ByteArray} (h : a.data.toList = b.data.toList) : a = b := by
  cases a; cases b
  simp only [ByteArray.mk.injEq]
  exact Array.ext' h
theorem map_inj {l m : List ByteArray} (h : l.map (·.data.toList) = m.map (·.data.toList)) : l = m := by
  induction l generalizing m with
  | nil => cases m with
    | nil => rfl
    | cons a b => cases h
  | cons a b ih => cases m with
    | nil => cases h
    | cons c d =>
      injection h with h1 h2
      rw [ba_ext h1, ih h2]

/-- A line with its remark off, sign by sign. -/
theorem cut_tw : ∀ (l : List UInt8), (Lib.cut l [35]).1 = l.takeWhile (fun c => c != 35)
  | [] => rfl
  | c :: r => by
    have ih := cut_tw r
    unfold Lib.cut at ih ⊢
    have hge := Lib.index_ge r [35]
    by_cases h : c = 35
    · subst h
      have hix : Lib.index (35 :: r) [35] = 0 := by rw [Lib.index]; simp [List.isPrefixOf]
      rw [hix]
      rfl
    · have hp : ([35] : List UInt8).isPrefixOf (c :: r) = false := by simp [List.isPrefixOf, Ne.symm h]
      have hix : Lib.index (c :: r) [35] = if Lib.index r [35] == -1 then -1 else Lib.index r [35] + 1 := by rw [Lib.index, hp]; simp
      have ht : List.takeWhile (fun c => c != 35) (c :: r) = c :: r.takeWhile (fun c => c != 35) := by rw [List.takeWhile_cons_of_pos (by simpa using h)]
      rw [hix, ht, ← ih]
      by_cases hm : Lib.index r [35] = -1
      · rw [hm]
        rfl
      · obtain ⟨j, hj⟩ : ∃ j : Nat, Lib.index r [35] = j := ⟨(Lib.index r [35]).toNat, by omega⟩
        rw [hj]
        have b1 : ((j : Int) == -1) = false := beq_eq_false_iff_ne.2 (by omega)
        rw [b1]
        simp only [Bool.false_eq_true, if_false]
        rw [if_pos (by omega), if_pos (by omega)]
        have e1 : ((j : Int) + 1).toNat = j + 1 := by omega
        rw [e1, Int.toNat_natCast]
        rfl

theorem wdf_blank {d : ByteArray} (num : Int) : ∀ (M j : Nat), (∀ i, j ≤ i → i < d.size → blk (d.data.toList.getD i 0) = true) → wdf d num M j = []
  | 0, j, h => rfl
  | M + 1, j, h => by
    unfold wdf
    by_cases g : j < d.size
    · rw [if_pos g]
      obtain ⟨k, hk⟩ : ∃ k, d.size - j = k + 1 := ⟨d.size - j - 1, by omega⟩
      have e : stp d (d.size - j) j = j := by
        rw [hk]
        show (if blk (d.data.toList.getD j 0) = true then j else _) = j
        rw [if_pos (h j (Nat.le_refl _) g)]
      rw [e, if_neg (Nat.lt_irrefl _), wdf_blank num M (j + 1) (fun i h1 h2 => h i (by omega) h2)]
      rfl
    · rw [if_neg g]

theorem tw_self {p : UInt8 → Bool} : ∀ (l : List UInt8), l.takeWhile p = l ↔ ∀ c ∈ l, p c = true
  | [] => by simp
  | c :: r => by
    have ih := tw_self (p := p) r
    by_cases h : p c = true
    · rw [List.takeWhile_cons_of_pos h]
      simp [ih, h]
    · rw [List.takeWhile_cons_of_neg h]
      simp [h]

/-- What printing leans on. -/
structure PT (w : World) : Prop where
  lt : LT w
theorem PT.keep {w w' : World} (h : PT w) (k : Keeps (fun _ => False) w w') : PT w' := ⟨h.lt.keep k⟩
end Go.Proofs.YtanmpioplckgbaaDoor
namespace Go.Proofs.YtanmpioplckgbaaDoor
open Go.RowKit
/-- An operand's text. -/
def srcT (r : Bool) (n : Int) : List UInt8 := if r then 114 :: Lib.itoa n else Lib.itoa n
/-- A slot's word; lb: the labels, by their places. -/
def tldT (q : Ins) (lb : Nat → List UInt8) (s : Int) : List UInt8 := if s = 1 then srcT true q.dst else if s = 2 then 64 :: srcT q.oR q.oN else if s = 3 then srcT q.xR q.xN else if s = 4 then srcT q.yR q.yN else if s = 5 then (relT q.rel.toNat).data.toList else lb q.to.toNat
/-- An instruction's own word. -/
def nmT (q : Ins) : List UInt8 := if q.code = 6 then (opT q.op.toNat).data.toList else (shT q.code.toNat).data.toList
def wrdsT (q : Ins) (lb : Nat → List UInt8) : List (List UInt8) := nmT q :: (slo q.code.toNat).map (tldT q lb)
def lineT (q : Ins) (lb : Nat → List UInt8) : List UInt8 := Lib.join (wrdsT q lb) [32]
/-- The labels of the first k places that are jumped to. -/
def lbk (T : List Int) : Nat → Nat → List UInt8
  | 0 => fun _ => []
  | k + 1 => fun p => if (p : Int) = T.getD k 0 then 108 :: Lib.itoa (k : Int) else lbk T k p
/-- A place's lines. -/
def pcT (l : List Ins) (lb : Nat → List UInt8) (p : Nat) : List UInt8 := (if lb p = [] then [] else lb p ++ [58, 10]) ++ (if p < l.length then lineT (l.getD p ins0) lb ++ [10] else [])
def prnK (l : List Ins) (lb : Nat → List UInt8) (k : Nat) : List UInt8 := (List.range k).flatMap (pcT l lb)
def tgs (l : List Ins) : List Int := (l.filter (fun q => kdL q.code)).map (·.to)
def tgS (l : List Ins) : List Int := Lib.compact ((tgs l).mergeSort fun x y => decide (x ≤ y))
def lbT (l : List Ins) : Nat → List UInt8 := lbk (tgS l) (tgS l).length
/-- A program's text. -/
def prn (l : List Ins) : List UInt8 := prnK l (lbT l) (l.length + 1)
/-- A number that fits. -/
def n64 (q : Ins) : Prop := In64 q.oN ∧ In64 q.xN ∧ In64 q.yN
/-- A word: no blank, no sign of a remark, no colon, no line's end. -/
def gw (w : List UInt8) : Prop := w ≠ [] ∧ ∀ c ∈ w, c ≠ 10 ∧ c ≠ 32 ∧ c ≠ 9 ∧ c ≠ 35 ∧ c ≠ 58
theorem itoa_ch (n : Int) : Lib.itoa n ≠ [] ∧ ∀ c ∈ Lib.itoa n, c = 45 ∨ digB c = true := by
  by_cases h : n < 0
  · rw [itoa_neg' h]
    refine ⟨by simp, fun c hc => ?_⟩
    rcases List.mem_cons.1 hc with rfl | hc
    · exact .inl rfl
    · exact .inr (List.all_eq_true.1 (dec_digs _) c hc)
  · rw [itoa_pos' h]
    exact ⟨(dec_all _ _ (Nat.le_refl _)).2.2.1, fun c hc => .inr (List.all_eq_true.1 (dec_digs _) c hc)⟩
theorem ch_ne {c : UInt8} (h : c = 45 ∨ digB c = true) : c ≠ 10 ∧ c ≠ 32 ∧ c ≠ 9 ∧ c ≠ 35 ∧ c ≠ 58 ∧ c ≠ 114 ∧ c ≠ 64 ∧ c ≠ 108 := by
  rcases h with rfl | h
  · decide
  · rw [digB_iff] at h
    refine ⟨?_, ?_, ?_, ?_, ?_, ?_, ?_, ?_⟩ <;> (rintro rfl; revert h; decide)
theorem gw_itoa (n : Int) : gw (Lib.itoa n) := ⟨(itoa_ch n).1, fun c hc => by have := ch_ne ((itoa_ch n).2 c hc); exact ⟨this.1, this.2.1, this.2.2.1, this.2.2.2.1, this.2.2.2.2.1⟩⟩
theorem gw_cons {a : UInt8} {w : List UInt8} (ha : a ≠ 10 ∧ a ≠ 32 ∧ a ≠ 9 ∧ a ≠ 35 ∧ a ≠ 58) (h : gw w) : gw (a :: w) := ⟨by simp, fun c hc => by
  rcases List.mem_cons.1 hc with rfl | hc
  · exact ha
  · exact h.2 c hc⟩
theorem gw_src (r : Bool) (n : Int) : gw (srcT r n) := by
  unfold srcT
  cases r
  · exact gw_itoa n
  · exact gw_cons (by decide) (gw_itoa n)
instance (w : List UInt8) : Decidable (gw w) := by unfold gw; infer_instance
theorem gw_rel {r : Int} (h : isRel r = true) : gw (relT r.toNat).data.toList ∧ look relT (relT r.toNat) 1 6 = r.toNat ∧ 1 ≤ r.toNat ∧ r.toNat ≤ 6 := by
  unfold isRel at h
  simp at h
  obtain ⟨k, rfl⟩ : ∃ k : Nat, r = k := ⟨r.toNat, by omega⟩
  rw [Int.toNat_natCast]
  rcases (by omega : k = 1 ∨ k = 2 ∨ k = 3 ∨ k = 4 ∨ k = 5 ∨ k = 6) with rfl | rfl | rfl | rfl | rfl | rfl <;> decide +kernel
theorem gw_op {r : Int} (h : isOp r = true) : gw (opT r.toNat).data.toList ∧ look opT (opT r.toNat) 1 12 = r.toNat ∧ 1 ≤ r.toNat ∧ r.toNat ≤ 12 := by
  unfold isOp at h
  simp at h
  obtain ⟨k, rfl⟩ : ∃ k : Nat, r = k := ⟨r.toNat, by omega⟩
  rw [Int.toNat_natCast]
  rcases (by omega : k = 1 ∨ k = 2 ∨ k = 3 ∨ k = 4 ∨ k = 5 ∨ k = 6 ∨ k = 7 ∨ k = 8 ∨ k = 9 ∨ k = 10 ∨ k = 11 ∨ k = 12) with rfl | rfl | rfl | rfl | rfl | rfl | rfl | rfl | rfl | rfl | rfl | rfl <;> decide +kernel
theorem gw_sh {k : Nat} (h1 : 1 ≤ k) (h2 : k ≤ 10) (h6 : k ≠ 6) : gw (shT k).data.toList ∧ look opT (shT k) 1 12 = 0 ∧ look shT (shT k) 1 10 = k := by
  rcases (by omega : k = 1 ∨ k = 2 ∨ k = 3 ∨ k = 4 ∨ k = 5 ∨ k = 7 ∨ k = 8 ∨ k = 9 ∨ k = 10) with rfl | rfl | rfl | rfl | rfl | rfl | rfl | rfl | rfl <;> decide +kernel
/-- A word that is read. -/
theorem ba_tl (l : List UInt8) : (⟨l.toArray⟩ : ByteArray).toList = l := by
  rw [ByteArray.toList_eq]
theorem tp_cons (c : UInt8) (l : List UInt8) : tp ⟨(c :: l).toArray⟩ c = ⟨l.toArray⟩ := by
  unfold tp Lib.trimPrefix Lib.hasPrefix
  simp [List.isPrefixOf]
theorem hp_cons (c d : UInt8) (l : List UInt8) : hp ⟨(c :: l).toArray⟩ d = (d == c) := by
  unfold hp Lib.hasPrefix
  simp [List.isPrefixOf]
theorem reg_src {n : Int} (h : rg n = true) : regB ⟨(srcT true n).toArray⟩ = true ∧ regN ⟨(srcT true n).toArray⟩ = n := by
  have h' := h
  unfold rg at h'
  simp at h'
  have hr := round_to n ⟨by omega, by omega⟩
  have e : regN ⟨(srcT true n).toArray⟩ = n := by
    unfold regN srcT
    rw [if_pos rfl, tp_cons, ba_tl]
    exact hr.1
  refine ⟨?_, e⟩
  unfold regB
  rw [e, h]
  unfold srcT
  rw [if_pos rfl, tp_cons, hp_cons, ba_tl, hr.2.1]
  rfl
theorem reg_itoa (n : Int) : regB ⟨(Lib.itoa n).toArray⟩ = false := by
  obtain ⟨h1, h2⟩ := itoa_ch n
  cases e : Lib.itoa n with
  | nil => exact absurd e h1
  | cons c r =>
    have := (ch_ne (h2 c (by rw [e]; simp))).2.2.2.2.2.1
    unfold regB
    rw [hp_cons]
    have : ((114 : UInt8) == c) = false := by simpa using Ne.symm this
    rw [this]
    rfl
theorem src_src {r : Bool} {n : Int} (h : opk r n = true) (hn : In64 n) : src ⟨(srcT r n).toArray⟩ = some (r, n) := by
  unfold src
  cases r with
  | true =>
    have h' : rg n = true := by simpa [opk] using h
    rw [if_pos (reg_src h').1, (reg_src h').2]
  | false =>
    have hr := round_to n hn
    have e : srcT false n = Lib.itoa n := rfl
    rw [e, reg_itoa, ba_tl, hr.2.1, hr.1]
    rfl
theorem obj_src {r : Bool} {n : Int} (h : opk r n = true) (hn : In64 n) : objO ⟨(64 :: srcT r n).toArray⟩ = some (r, n) := by
  unfold objO
  rw [hp_cons, tp_cons, src_src h hn]
  rfl
end Go.Proofs.YtanmpioplckgbaaDoor
namespace Go.Proofs.YtanmpioplckgbaaDoor
open Go.RowKit
/-! A line's words. -/
theorem stp_word {d : ByteArray} {pre w post : List UInt8} (hd : d.data.toList = pre ++ (w ++ post)) (hw : ∀ c ∈ w, blk c = false) (hp : post = [] ∨ ∃ c r, post = c :: r ∧ blk c = true) : stp d (d.size - pre.length) pre.length = pre.length + w.length := by
  have hl : d.data.toList.length = d.size := by simp
  have hs : d.size = pre.length + w.length + post.length := by rw [← hl, hd]; simp; omega
  have key : ∀ (n j : Nat), j + n = w.length + post.length → j ≤ w.length → stp d n (pre.length + j) = pre.length + w.length := by
    intro n
    induction n with
    | zero => intro j h1 h2; show pre.length + j = _; omega
    | succ n ih =>
      intro j h1 h2
      unfold stp
      have hg : d.data.toList.getD (pre.length + j) 0 = (w ++ post).getD j 0 := by
        rw [hd, List.getD_eq_getElem?_getD, List.getElem?_append_right (by omega), Nat.add_sub_cancel_left, List.getD_eq_getElem?_getD]
      rw [hg]
      by_cases e : j < w.length
      · have : (w ++ post).getD j 0 = w[j] := by
          rw [List.getD_eq_getElem?_getD, List.getElem?_append_left e, List.getElem?_eq_getElem e]; rfl
        rw [this, hw _ (List.getElem_mem e), if_neg (by decide), show pre.length + j + 1 = pre.length + (j + 1) by omega]
        exact ih (j + 1) (by omega) (by omega)
      · have hj : j = w.length := by omega
        rcases hp with rfl | ⟨c, r, rfl, hc⟩
        · simp at h1; omega
        · have : (w ++ c :: r).getD j 0 = c := by
            rw [List.getD_eq_getElem?_getD, List.getElem?_append_right (by omega), hj, Nat.sub_self]; rfl
          rw [this, hc, if_pos rfl, hj]
  have := key (d.size - pre.length) 0 (by omega) (by omega)
  rwa [Nat.add_zero] at this
theorem ext_word {d : ByteArray} {pre w post : List UInt8} (hd : d.data.toList = pre ++ (w ++ post)) : d.extract pre.length (pre.length + w.length) = ⟨w.toArray⟩ := by
  have e : (d.extract pre.length (pre.length + w.length)).data.toList = w := by
    rw [ByteArray.data_extract, Array.toList_extract, hd, List.extract_eq_take_drop, List.drop_left, Nat.add_sub_cancel_left, List.take_left]
  exact ba_ext (by rw [e])
theorem wdf_join {d : ByteArray} (num : Int) : ∀ (ws : List (List UInt8)) (pre : List UInt8) (n : Nat), (∀ w ∈ ws, w ≠ [] ∧ ∀ c ∈ w, blk c = false) → d.data.toList = pre ++ Lib.join ws [32] → d.size < n + pre.length → (wdf d num n pre.length).map (·.t) = ws.map (fun w => ⟨w.toArray⟩)
  | [], pre, n, _, hd, hn => by
    have hl : d.data.toList.length = d.size := by simp
    have : d.size = pre.length := by rw [← hl, hd, Lib.join_nil]; simp
    cases n with
    | zero => rfl
    | succ n => unfold wdf; rw [if_neg (by omega)]; rfl
  | [w], pre, n, hw, hd, hn => by
    have hl : d.data.toList.length = d.size := by simp
    rw [Lib.join_one] at hd
    have h1 := hw w (by simp)
    have hwl : 0 < w.length := List.length_pos_iff.2 h1.1
    have hs : d.size = pre.length + w.length := by rw [← hl, hd]; simp
    have hd' : d.data.toList = pre ++ (w ++ []) := by rw [hd, List.append_nil]
    obtain ⟨n, rfl⟩ : ∃ m, n = m + 1 := ⟨n - 1, by omega⟩
    unfold wdf
    rw [if_pos (by omega), stp_word hd' h1.2 (.inl rfl), if_pos (by omega), ext_word hd', List.map_append]
    have : wdf d num n (pre.length + w.length + 1) = [] := by
      cases n with
      | zero => rfl
      | succ n => unfold wdf; rw [if_neg (by omega)]
    rw [this]
    rfl
  | w :: v :: r, pre, n, hw, hd, hn => by
    have hl : d.data.toList.length = d.size := by simp
    have e : Lib.join (w :: v :: r) [32] = w ++ (32 :: Lib.join (v :: r) [32]) := by
      rw [Lib.join_cons, Lib.join_cons]; simp [Lib.joinTail]
    rw [e] at hd
    have h1 := hw w (by simp)
    have hwl : 0 < w.length := List.length_pos_iff.2 h1.1
    have hs : d.size = pre.length + w.length + 1 + (Lib.join (v :: r) [32]).length := by rw [← hl, hd]; simp; omega
    obtain ⟨n, rfl⟩ : ∃ m, n = m + 1 := ⟨n - 1, by omega⟩
    unfold wdf
    rw [if_pos (by omega), stp_word hd h1.2 (.inr ⟨32, _, rfl, by decide⟩), if_pos (by omega), ext_word hd, List.map_append]
    have i := wdf_join num (v :: r) (pre ++ w ++ [32]) n (fun x hx => hw x (by simp at hx ⊢; exact .inr hx)) (by rw [hd]; simp) (by simp; omega)
    have el : (pre ++ w ++ [32]).length = pre.length + w.length + 1 := by simp; omega
    rw [el] at i
    rw [i]
    rfl
theorem gw_blk {w : List UInt8} (h : gw w) : w ≠ [] ∧ ∀ c ∈ w, blk c = false := ⟨h.1, fun c hc => by
  obtain ⟨_, h2, h3, _⟩ := h.2 c hc
  unfold blk
  have a1 : (c.toNat == 32) = false := by
    rw [beq_eq_false_iff_ne]; intro e; exact h2 (UInt8.toNat_inj.1 e)
  have a2 : (c.toNat == 9) = false := by
    rw [beq_eq_false_iff_ne]; intro e; exact h3 (UInt8.toNat_inj.1 e)
  rw [a1, a2]; rfl⟩
theorem join_mem {ws : List (List UInt8)} {c : UInt8} (h : c ∈ Lib.join ws [32]) : c = 32 ∨ ∃ w ∈ ws, c ∈ w := by
  cases ws with
  | nil => rw [Lib.join_nil] at h; cases h
  | cons w r =>
    rw [Lib.join_cons] at h
    rcases List.mem_append.1 h with h | h
    · exact .inr ⟨w, by simp, h⟩
    · unfold Lib.joinTail at h
      obtain ⟨x, hx, hc⟩ := List.mem_flatten.1 h
      obtain ⟨y, hy, rfl⟩ := List.mem_map.1 hx
      rcases List.mem_append.1 hc with hc | hc
      · exact .inl (by simpa using hc)
      · exact .inr ⟨y, by simp [hy], hc⟩
theorem bare_of {l : List UInt8} (h : ∀ c ∈ l, c ≠ 35) : bare ⟨l.toArray⟩ = ⟨l.toArray⟩ := by
  unfold bare
  have : (Lib.cut l [35]).1 = l := by rw [cut_tw, (tw_self l).2 (fun c hc => by simpa using h c hc)]
  show (⟨(Lib.cut l [35]).1.toArray⟩ : ByteArray) = _
  rw [this]
/-- The words of a line of words. -/
theorem wds_join (ws : List (List UInt8)) (num : Int) (h : ∀ w ∈ ws, (w ≠ [] ∧ ∀ c ∈ w, blk c = false) ∧ ∀ c ∈ w, c ≠ 35) : (wds ⟨(Lib.join ws [32]).toArray⟩ num).map (·.t) = ws.map (fun w => ⟨w.toArray⟩) := by
  unfold wds
  rw [bare_of (fun c hc => by
    rcases join_mem hc with rfl | ⟨w, hw, hc⟩
    · decide
    · exact (h w hw).2 c hc)]
  have := wdf_join (d := ⟨(Lib.join ws [32]).toArray⟩) num ws [] ((⟨(Lib.join ws [32]).toArray⟩ : ByteArray).size + 1) (fun w hw => (h w hw).1) (by simp) (by simp)
  exact this
/-! A text's lines. -/
theorem sp_line : ∀ (x y : List UInt8), (∀ c ∈ x, c ≠ 10) → sp (x ++ 10 :: y) = x :: sp y
  | [], y, _ => sp_nl y
  | c :: x, y, h => by
    rw [List.cons_append, sp_ne (h c (by simp)), sp_line x y (fun d hd => h d (by simp [hd]))]
    rfl
/-! What an instruction's line comes to. -/
theorem fls_step {u u' : Ins} {s : Int} {ss : List Int} {pv p : Pc} {ps acc : List Pc} (h6 : s ≠ 6) (h : fil u s p.t = some u') : fls u (s :: ss) pv (p :: ps) acc = fls u' ss p ps acc := by
  rw [fls, if_neg h6, h]
theorem fls_jump {u : Ins} {ss : List Int} {pv p : Pc} {ps acc : List Pc} (h : nmB p.t = true) : fls u (6 :: ss) pv (p :: ps) acc = fls u ss p ps (acc ++ [p]) := by
  rw [fls, if_pos rfl, if_pos h]
theorem fil1 {q u : Ins} (lb : Nat → List UInt8) (h : rg q.dst = true) : fil u 1 ⟨(tldT q lb 1).toArray⟩ = some { u with dst := q.dst } := by
  have e : tldT q lb 1 = srcT true q.dst := rfl
  unfold fil
  rw [e, if_pos rfl, if_pos (reg_src h).1, (reg_src h).2]
theorem fil2 {q u : Ins} (lb : Nat → List UInt8) (h : opk q.oR q.oN = true) (hn : In64 q.oN) : fil u 2 ⟨(tldT q lb 2).toArray⟩ = some { u with oR := q.oR, oN := q.oN } := by
  have e : tldT q lb 2 = 64 :: srcT q.oR q.oN := rfl
  unfold fil
  rw [e, if_neg (by decide), if_pos rfl, obj_src h hn]
  rfl
theorem fil3 {q u : Ins} (lb : Nat → List UInt8) (h : opk q.xR q.xN = true) (hn : In64 q.xN) : fil u 3 ⟨(tldT q lb 3).toArray⟩ = some { u with xR := q.xR, xN := q.xN } := by
  have e : tldT q lb 3 = srcT q.xR q.xN := rfl
  unfold fil
  rw [e, if_neg (by decide), if_neg (by decide), if_pos rfl, src_src h hn]
  rfl
theorem fil4 {q u : Ins} (lb : Nat → List UInt8) (h : opk q.yR q.yN = true) (hn : In64 q.yN) : fil u 4 ⟨(tldT q lb 4).toArray⟩ = some { u with yR := q.yR, yN := q.yN } := by
  have e : tldT q lb 4 = srcT q.yR q.yN := rfl
  unfold fil
  rw [e, if_neg (by decide), if_neg (by decide), if_neg (by decide), if_pos rfl, src_src h hn]
  rfl
theorem fil5 {q u : Ins} (lb : Nat → List UInt8) (h : isRel q.rel = true) : fil u 5 ⟨(tldT q lb 5).toArray⟩ = some { u with rel := q.rel } := by
  have e : tldT q lb 5 = (relT q.rel.toNat).data.toList := rfl
  obtain ⟨_, h2, h3, h4⟩ := gw_rel h
  have e2 : (⟨(relT q.rel.toNat).data.toList.toArray⟩ : ByteArray) = relT q.rel.toNat := by cases relT q.rel.toNat; simp
  unfold fil
  rw [e, e2, if_neg (by decide), if_neg (by decide), if_neg (by decide), if_neg (by decide), if_pos rfl, h2, if_pos (by omega)]
  have : ((q.rel.toNat : Nat) : Int) = q.rel := by omega
  rw [this]
/-- What the line's words come to; the label's word is found later. -/
def zt (q : Ins) : Ins := { q with to := 0 }
theorem nmd_of {q : Ins} {n : Int} {c : Nat} (hc : q.code = (c : Int)) (h : 1 ≤ c ∧ c ≤ 10) (hq : q.cab n c = true) : nmd ⟨(nmT q).toArray⟩ = some { ins0 with code := q.code, op := if c = 6 then q.op else 0 } ∧ gw (nmT q) := by
  unfold nmT nmd
  by_cases h6 : c = 6
  · subst h6
    have ho : isOp q.op = true := by
      unfold Ins.cab at hq
      simp at hq
      exact hq.1.1
    obtain ⟨h1, h2, h3, h4⟩ := gw_op ho
    have e2 : (⟨(opT q.op.toNat).data.toList.toArray⟩ : ByteArray) = opT q.op.toNat := by cases opT q.op.toNat; simp
    have hc6 : q.code = 6 := hc
    rw [if_pos hc6, e2, h2, if_pos (by omega), if_pos rfl]
    have : ((q.op.toNat : Nat) : Int) = q.op := by omega
    rw [this, hc6]
    exact ⟨rfl, h1⟩
  · obtain ⟨h1, h2, h3⟩ := gw_sh h.1 h.2 h6
    have e2 : (⟨(shT c).data.toList.toArray⟩ : ByteArray) = shT c := by cases shT c; simp
    have e3 : q.code.toNat = c := by omega
    have h6' : ¬ q.code = 6 := by omega
    rw [if_neg h6', e3, e2, h2, if_neg (by simp), h3, if_pos (by omega), if_neg h6, hc]
    exact ⟨rfl, h1⟩
end Go.Proofs.YtanmpioplckgbaaDoor
namespace Go.Proofs.YtanmpioplckgbaaDoor
open Go.RowKit
theorem fil_lay {q u : Ins} (lb : Nat → List UInt8) {n s : Int} (hs : 1 ≤ s ∧ s ≤ 5) (h : q.oks n s = true) (hn : n64 q) : fil u s ⟨(tldT q lb s).toArray⟩ = some (u.lay q s) := by
  rcases (by omega : s = 1 ∨ s = 2 ∨ s = 3 ∨ s = 4 ∨ s = 5) with rfl | rfl | rfl | rfl | rfl
  · exact fil1 lb h
  · exact fil2 lb h hn.1
  · exact fil3 lb h hn.2.1
  · exact fil4 lb h hn.2.2
  · exact fil5 lb h
/-- What is filled in, the jump's place left out. -/
def Ins.layz (u q : Ins) (l : List Int) : Ins := l.foldl (fun u s => if s = 6 then u else u.lay q s) u
theorem fls_lays {q : Ins} (lb : Nat → List UInt8) {n : Int} (hn : n64 q) : ∀ (ss : List Int) (u : Ins) (pv : Pc) (ps acc : List Pc), (∀ s ∈ ss, (1 ≤ s ∧ s ≤ 6) ∧ q.oks n s = true) → ps.map (·.t) = ss.map (fun s => (⟨(tldT q lb s).toArray⟩ : ByteArray)) → (6 ∈ ss → nmB ⟨(lb q.to.toNat).toArray⟩ = true) →
    ∃ ps', fls u ss pv ps acc = .ok (u.layz q ss, ps') ∧ ps'.map (·.t) = acc.map (·.t) ++ (ss.filter (fun s => s = 6)).map (fun _ => (⟨(lb q.to.toNat).toArray⟩ : ByteArray))
  | [], u, pv, ps, acc, _, hp, _ => by
    cases ps with
    | nil => exact ⟨acc, rfl, by simp⟩
    | cons p r => simp at hp
  | s :: ss, u, pv, ps, acc, hs, hp, h6 => by
    cases ps with
    | nil => simp at hp
    | cons p r =>
      simp only [List.map_cons, List.cons.injEq] at hp
      have h1 := hs s (by simp)
      by_cases e : s = 6
      · subst e
        have et : tldT q lb 6 = lb q.to.toNat := rfl
        rw [et] at hp
        have hnm := h6 (by simp)
        rw [fls_jump (by rw [hp.1]; exact hnm)]
        obtain ⟨ps', e1, e2⟩ := fls_lays lb hn ss u p r (acc ++ [p]) (fun x hx => hs x (by simp [hx])) hp.2 (fun _ => hnm)
        refine ⟨ps', e1, ?_⟩
        rw [e2]
        simp [hp.1]
      · rw [fls_step e (by rw [hp.1]; exact fil_lay lb (by omega) h1.2 hn)]
        obtain ⟨ps', e1, e2⟩ := fls_lays lb hn ss (u.lay q s) p r acc (fun x hx => hs x (by simp [hx])) hp.2 (fun h => h6 (by simp [h]))
        refine ⟨ps', ?_, ?_⟩
        · rw [e1]
          show _ = Except.ok (Ins.layz u q (s :: ss), ps')
          unfold Ins.layz
          rw [List.foldl_cons, if_neg e]
        · rw [e2, List.filter_cons_of_neg (by simpa using e)]
theorem lay_zt (u q : Ins) (s : Int) (hs : 1 ≤ s ∧ s ≤ 6) : zt (u.lay q s) = if s = 6 then zt u else (zt u).lay q s := by
  rcases (by omega : s = 1 ∨ s = 2 ∨ s = 3 ∨ s = 4 ∨ s = 5 ∨ s = 6) with rfl | rfl | rfl | rfl | rfl | rfl <;> rfl
theorem lays_zt (q : Ins) : ∀ (ss : List Int) (u : Ins), (∀ s ∈ ss, 1 ≤ s ∧ s ≤ 6) → zt (u.lays q ss) = (zt u).layz q ss
  | [], u, _ => rfl
  | s :: ss, u, h => by
    have e := lays_zt q ss (u.lay q s) (fun x hx => h x (by simp [hx]))
    show zt ((u.lay q s).lays q ss) = ((if s = 6 then zt u else (zt u).lay q s)).layz q ss
    rw [e, lay_zt u q s (h s (by simp))]
theorem eqI_eq {u q : Ins} (h : eqI u q = true) : u = q := by
  obtain ⟨a0, a1, a2, a3, a4, a5, a6, a7, a8, a9, a10⟩ := u
  obtain ⟨b0, b1, b2, b3, b4, b5, b6, b7, b8, b9, b10⟩ := q
  unfold eqI at h
  simp at h
  simp [h]
theorem slo_in {c : Nat} (h : 1 ≤ c ∧ c ≤ 10) : (∀ s ∈ slo c, 1 ≤ s ∧ s ≤ 6) ∧ (slo c).filter (fun s => s = 6) = if kdL (c : Int) = true then [6] else [] := by
  rcases (by omega : c = 1 ∨ c = 2 ∨ c = 3 ∨ c = 4 ∨ c = 5 ∨ c = 6 ∨ c = 7 ∨ c = 8 ∨ c = 9 ∨ c = 10) with rfl | rfl | rfl | rfl | rfl | rfl | rfl | rfl | rfl | rfl <;> decide
/-- A program's line, read: its instruction, but for the jump's place, and the jump's word. -/
theorem ins_line {q : Ins} {n : Int} {c : Nat} (hc : q.code = (c : Int)) (h : 1 ≤ c ∧ c ≤ 10) (hq : q.cab n c = true) (hn : n64 q) (lb : Nat → List UInt8) (hlb : kdL q.code = true → nmB ⟨(lb q.to.toNat).toArray⟩ = true) {m : Nat} (hm : m ≠ 64) {ws : List Pc} (hw : ws.map (·.t) = (wrdsT q lb).map (fun w => (⟨w.toArray⟩ : ByteArray))) :
    ∃ ps, insR m ws = .ok (zt q, ps) ∧ ps.map (·.t) = if kdL q.code = true then [(⟨(lb q.to.toNat).toArray⟩ : ByteArray)] else [] := by
  have hct : q.code.toNat = c := by omega
  unfold wrdsT at hw
  rw [hct] at hw
  cases ws with
  | nil => simp at hw
  | cons p r =>
    simp only [List.map_cons, List.cons.injEq, List.map_map] at hw
    have hnm := (nmd_of hc h hq).1
    rw [← hw.1] at hnm
    have hsl := slo_in h
    have hok : (slo c).all (q.oks n) = true := by
      unfold Ins.cab at hq
      simp only [Bool.and_eq_true] at hq
      exact hq.1.2
    have heq : ({ ins0 with code := q.code, op := if c = 6 then q.op else 0 } : Ins).lays q (slo c) = q := by
      unfold Ins.cab at hq
      simp only [Bool.and_eq_true] at hq
      exact eqI_eq hq.2
    have h6 : 6 ∈ slo c → nmB ⟨(lb q.to.toNat).toArray⟩ = true := fun h6 => by
      refine hlb ?_
      have : 6 ∈ (slo c).filter (fun s => s = 6) := by simpa using h6
      rw [hsl.2] at this
      rw [hc]
      by_cases e : kdL (c : Int) = true
      · exact e
      · rw [if_neg e] at this; cases this
    obtain ⟨ps, e1, e2⟩ := fls_lays lb hn (slo c) { ins0 with code := q.code, op := if c = 6 then q.op else 0 } p r [] (fun s hs => ⟨hsl.1 s hs, List.all_eq_true.1 hok s hs⟩) (by rw [hw.2]; rfl) h6
    refine ⟨ps, ?_, ?_⟩
    · rw [insR, hnm]
      show (if m = 64 then _ else fls _ (slo q.code.toNat) p r []) = _
      rw [if_neg hm, hct, e1]
      have ez := lays_zt q (slo c) ({ ins0 with code := q.code, op := if c = 6 then q.op else 0 } : Ins) hsl.1
      rw [heq] at ez
      rw [ez]
      rfl
    · rw [e2, hsl.2, hc]
      cases kdL (c : Int) <;> rfl
theorem suf_no {w : List UInt8} (h : gw w) : Lib.hasSuffix w [58] = false := by
  unfold Lib.hasSuffix
  cases e : ([58] : List UInt8).isSuffixOf w with
  | false => rfl
  | true =>
    rw [List.isSuffixOf_iff_suffix] at e
    exact absurd rfl (h.2 58 (e.subset (by simp))).2.2.2.2
theorem ln_ins {q : Ins} {n : Int} {c : Nat} (hc : q.code = (c : Int)) (h : 1 ≤ c ∧ c ≤ 10) (hq : q.cab n c = true) (hn : n64 q) (lb : Nat → List UInt8) (hlb : kdL q.code = true → nmB ⟨(lb q.to.toNat).toArray⟩ = true) {s : Sx} (hm : s.qs.length ≠ 64) {ws : List Pc} (hw : ws.map (·.t) = (wrdsT q lb).map (fun w => (⟨w.toArray⟩ : ByteArray))) :
    ∃ ps : List Pc, lnR ws s = .ok { s with qs := s.qs ++ [zt q], js := s.js ++ ps.map (fun p => (s.qs.length, p)) } ∧ ps.map (·.t) = if kdL q.code = true then [(⟨(lb q.to.toNat).toArray⟩ : ByteArray)] else [] := by
  obtain ⟨ps, e1, e2⟩ := ins_line hc h hq hn lb hlb hm hw
  refine ⟨ps, ?_, e2⟩
  cases ws with
  | nil => unfold wrdsT at hw; simp at hw
  | cons p r =>
    have hp : p.t = ⟨(nmT q).toArray⟩ := by unfold wrdsT at hw; simp only [List.map_cons, List.cons.injEq] at hw; exact hw.1
    unfold lnR
    have : Lib.hasSuffix p.t.data.toList [58] = false := by rw [hp]; exact suf_no (nmd_of hc h hq).2
    rw [this, if_neg (by decide), e1]
theorem ln_lab {w : List UInt8} {s : Sx} {ws : List Pc} (hw : ws.map (·.t) = [(⟨(w ++ [58]).toArray⟩ : ByteArray)]) (hn : nmB ⟨w.toArray⟩ = true) (hf : s.f ⟨w.toArray⟩ = none) :
    lnR ws s = .ok { s with n := s.n + 1, f := upd s.f ⟨w.toArray⟩ (some s.qs.length) } := by
  match ws, hw with
  | [], hw => simp at hw
  | _ :: _ :: _, hw => simp at hw
  | [p], hw =>
    simp only [List.map_cons, List.map_nil, List.cons.injEq, and_true] at hw
    have h1 : Lib.hasSuffix p.t.data.toList [58] = true := by
      rw [hw]
      show Lib.hasSuffix (w ++ [58]) [58] = true
      unfold Lib.hasSuffix
      rw [List.isSuffixOf_iff_suffix]
      exact List.suffix_append _ _
    have h2 : lab p.t = ⟨w.toArray⟩ := by
      unfold lab Lib.trimSuffix
      rw [if_pos h1, hw]
      show (⟨((w ++ [58]).take ((w ++ [58]).length - 1)).toArray⟩ : ByteArray) = _
      rw [show (w ++ [(58 : UInt8)]).length - 1 = w.length by simp, List.take_left]
    unfold lnR
    rw [if_pos h1, h2, if_pos hn, hf]
    rfl
end Go.Proofs.YtanmpioplckgbaaDoor
namespace Go.Proofs.YtanmpioplckgbaaDoor
open Go.RowKit
/-- Labels. -/
structure LB (lb : Nat → List UInt8) : Prop where
  nm : ∀ p, lb p ≠ [] → nmB ⟨(lb p).toArray⟩ = true
  gw : ∀ p, lb p ≠ [] → gw (lb p)
  ln : ∀ p, (lb p).length ≤ 3
  inj : ∀ p q, lb p ≠ [] → lb p = lb q → p = q
def plines (l : List Ins) (lb : Nat → List UInt8) (p : Nat) : List (List UInt8) := (if lb p = [] then [] else [lb p ++ [58]]) ++ (if p < l.length then [lineT (l.getD p ins0) lb] else [])
/-- An instruction that can be. -/
structure GI (n : Int) (lb : Nat → List UInt8) (q : Ins) : Prop where
  can : q.can n = true
  n64 : n64 q
  lb : kdL q.code = true → lb q.to.toNat ≠ []
theorem GI.c {n : Int} {lb : Nat → List UInt8} {q : Ins} (h : GI n lb q) : ∃ c : Nat, q.code = (c : Int) ∧ (1 ≤ c ∧ c ≤ 10) ∧ q.cab n c = true := by
  have hc := h.can
  have h1 : 1 ≤ q.code ∧ q.code ≤ 10 := by
    unfold Ins.can at hc
    simp only [Bool.and_eq_true, decide_eq_true_eq] at hc
    exact hc.1.1
  have e : q.code = ((q.code.toNat : Nat) : Int) := by omega
  exact ⟨q.code.toNat, e, by omega, by rw [cab_can e (by omega)]; exact hc⟩
theorem GI.words {n : Int} {lb : Nat → List UInt8} {q : Ins} (h : GI n lb q) (hL : LB lb) : ∀ w ∈ wrdsT q lb, YtanmpioplckgbaaDoor.gw w := by
  obtain ⟨c, hc, h1, hq⟩ := h.c
  intro w hw
  unfold wrdsT at hw
  rcases List.mem_cons.1 hw with rfl | hw
  · exact (nmd_of hc h1 hq).2
  · obtain ⟨s, hs, rfl⟩ := List.mem_map.1 hw
    have hct : q.code.toNat = c := by omega
    rw [hct] at hs
    have hr := (slo_in h1).1 s hs
    have hok : q.oks n s = true := by
      unfold Ins.cab at hq
      simp only [Bool.and_eq_true] at hq
      exact List.all_eq_true.1 hq.1.2 s hs
    rcases (by omega : s = 1 ∨ s = 2 ∨ s = 3 ∨ s = 4 ∨ s = 5 ∨ s = 6) with rfl | rfl | rfl | rfl | rfl | rfl
    · exact gw_src true q.dst
    · exact gw_cons (by decide) (gw_src q.oR q.oN)
    · exact gw_src q.xR q.xN
    · exact gw_src q.yR q.yN
    · exact (gw_rel hok).1
    · have : (6 : Int) ∈ (slo c).filter (fun s => s = 6) := by simpa using hs
      rw [(slo_in h1).2] at this
      have hk : kdL q.code = true := by
        rw [hc]
        by_cases e : kdL (c : Int) = true
        · exact e
        · rw [if_neg e] at this; cases this
      exact hL.gw _ (h.lb hk)
theorem sp_pc {l : List Ins} {lb : Nat → List UInt8} {n : Int} (hL : LB lb) (hG : ∀ q ∈ l, GI n lb q) (p : Nat) (r : List UInt8) : sp (pcT l lb p ++ r) = plines l lb p ++ sp r := by
  have e2 : ∀ r, sp ((if p < l.length then lineT (l.getD p ins0) lb ++ [10] else []) ++ r) = (if p < l.length then [lineT (l.getD p ins0) lb] else []) ++ sp r := fun r => by
    by_cases h : p < l.length
    · rw [if_pos h, if_pos h, List.append_assoc]
      refine sp_line _ _ (fun c hc => ?_)
      rcases join_mem hc with rfl | ⟨w, hw, hc⟩
      · decide
      · have hm : l.getD p ins0 ∈ l := by rw [List.getD_eq_getElem?_getD, List.getElem?_eq_getElem h]; exact List.getElem_mem h
        exact (((hG _ hm).words hL w hw).2 c hc).1
    · rw [if_neg h, if_neg h]; rfl
  unfold pcT plines
  rw [List.append_assoc]
  by_cases h : lb p = []
  · rw [if_pos h, if_pos h]
    exact e2 r
  · rw [if_neg h, if_neg h, List.append_assoc, show (lb p ++ ([58, 10] ++ ((if p < l.length then lineT (l.getD p ins0) lb ++ [10] else []) ++ r))) = (lb p ++ [58]) ++ 10 :: ((if p < l.length then lineT (l.getD p ins0) lb ++ [10] else []) ++ r) by simp]
    rw [sp_line _ _ (fun c hc => ?_), e2 r]
    · rfl
    · rcases List.mem_append.1 hc with hc | hc
      · exact ((hL.gw p h).2 c hc).1
      · have : c = 58 := by simpa using hc
        subst this; decide
theorem sp_prn {l : List Ins} {lb : Nat → List UInt8} {n : Int} (hL : LB lb) (hG : ∀ q ∈ l, GI n lb q) : ∀ (ps : List Nat), sp (ps.flatMap (pcT l lb)) = ps.flatMap (plines l lb) ++ [[]]
  | [] => rfl
  | p :: ps => by
    rw [List.flatMap_cons, List.flatMap_cons, sp_pc hL hG, sp_prn hL hG ps, List.append_assoc]
theorem rdR_app : ∀ (a b : List ByteArray) (i : Nat) (s s' : Sx), rdR a i s = .ok s' → rdR (a ++ b) i s = rdR b (i + a.length) s'
  | [], b, i, s, s', h => by
    have h : Except.ok s = Except.ok s' := h
    injection h with h
    subst h; rfl
  | x :: a, b, i, s, s', h => by
    have h : (match lnR (wds x ((i : Int) + 1)) s with | .error e => (Except.error e : Except Flt Sx) | .ok s' => rdR a (i + 1) s') = Except.ok s' := h
    show (match lnR (wds x ((i : Int) + 1)) s with | .error e => (Except.error e : Except Flt Sx) | .ok s' => rdR (a ++ b) (i + 1) s') = _
    cases e : lnR (wds x ((i : Int) + 1)) s with
    | error f => rw [e] at h; cases h
    | ok s1 =>
      rw [e] at h
      show rdR (a ++ b) (i + 1) s1 = _
      rw [rdR_app a b (i + 1) s1 s' h, List.length_cons, show i + 1 + a.length = i + (a.length + 1) by omega]
theorem rdR_one {x : ByteArray} {i : Nat} {s s' : Sx} (h : lnR (wds x ((i : Int) + 1)) s = .ok s') : rdR [x] i s = .ok s' := by
  show (match lnR (wds x ((i : Int) + 1)) s with | .error e => (Except.error e : Except Flt Sx) | .ok s' => rdR [] (i + 1) s') = _
  rw [h]; rfl
/-- How far the reading has come: the places below p are read. -/
structure RI0 (l : List Ins) (lb : Nat → List UInt8) (p : Nat) (s : Sx) : Prop where
  qs : s.qs = (l.take p).map zt
  fs : ∀ t v, s.f t = some v ↔ (v < p ∧ lb v ≠ [] ∧ t = ⟨(lb v).toArray⟩)
  js : ∀ x ∈ s.js, x.1 < l.length ∧ kdL (l.getD x.1 ins0).code = true ∧ x.2.t = ⟨(lb (l.getD x.1 ins0).to.toNat).toArray⟩
  ja : ∀ i, i < p → i < l.length → kdL (l.getD i ins0).code = true → ∃ x ∈ s.js, x.1 = i
theorem ba_inj {a b : List UInt8} (h : (⟨a.toArray⟩ : ByteArray) = ⟨b.toArray⟩) : a = b := by
  have := congrArg (fun x => x.data.toList) h
  simpa using this
def bas (l : List (List UInt8)) : List ByteArray := l.map (fun w => ⟨w.toArray⟩)
theorem rd_place {l : List Ins} {lb : Nat → List UInt8} {n : Int} (hL : LB lb) (hG : ∀ q ∈ l, GI n lb q) (h64 : l.length ≤ 64) {p : Nat} (hp : p ≤ l.length) {s : Sx} (h : RI0 l lb p s) (i : Nat) : ∃ s', rdR (bas (plines l lb p)) i s = .ok s' ∧ RI0 l lb (p + 1) s' := by
  have hqs : s.qs.length = p := by rw [h.qs]; simp; omega
  have fstep : ∀ (f : ByteArray → Option Nat), (∀ t v, f t = some v ↔ (v < p ∧ lb v ≠ [] ∧ t = ⟨(lb v).toArray⟩)) → lb p ≠ [] → ∀ t v, upd f ⟨(lb p).toArray⟩ (some p) t = some v ↔ (v < p + 1 ∧ lb v ≠ [] ∧ t = ⟨(lb v).toArray⟩) := fun f hf hlb t v => by
    unfold upd
    by_cases e : t = ⟨(lb p).toArray⟩
    · rw [if_pos e]
      constructor
      · intro hv
        injection hv with hv
        subst hv
        exact ⟨by omega, hlb, e⟩
      · rintro ⟨_, h2, h3⟩
        have := hL.inj v p h2 (ba_inj (h3.symm.trans e))
        rw [this]
    · rw [if_neg e, hf]
      constructor
      · rintro ⟨h1, h2, h3⟩; exact ⟨by omega, h2, h3⟩
      · rintro ⟨h1, h2, h3⟩
        refine ⟨?_, h2, h3⟩
        rcases (by omega : v < p ∨ v = p) with g | rfl
        · exact g
        · exact absurd h3 e
  have fsame : lb p = [] → ∀ t v, s.f t = some v ↔ (v < p + 1 ∧ lb v ≠ [] ∧ t = ⟨(lb v).toArray⟩) := fun hlb t v => by
    rw [h.fs]
    constructor
    · rintro ⟨h1, h2, h3⟩; exact ⟨by omega, h2, h3⟩
    · rintro ⟨h1, h2, h3⟩
      refine ⟨?_, h2, h3⟩
      rcases (by omega : v < p ∨ v = p) with g | rfl
      · exact g
      · exact absurd hlb h2
  -- the label's line
  have hlab : ∃ s1, rdR (bas (if lb p = [] then [] else [lb p ++ [58]])) i s = .ok s1 ∧ s1.qs = s.qs ∧ s1.js = s.js ∧ ∀ t v, s1.f t = some v ↔ (v < p + 1 ∧ lb v ≠ [] ∧ t = ⟨(lb v).toArray⟩) := by
    by_cases hlb : lb p = []
    · rw [if_pos hlb]
      exact ⟨s, rfl, rfl, rfl, fsame hlb⟩
    · rw [if_neg hlb]
      have hg := hL.gw p hlb
      have hw : (wds ⟨(lb p ++ [58]).toArray⟩ ((i : Int) + 1)).map (·.t) = [(⟨(lb p ++ [58]).toArray⟩ : ByteArray)] := by
        have := wds_join [lb p ++ [58]] ((i : Int) + 1) (fun w hw => by
          have : w = lb p ++ [58] := by simpa using hw
          subst this
          refine ⟨⟨by simp, fun c hc => ?_⟩, fun c hc => ?_⟩
          · rcases List.mem_append.1 hc with hc | hc
            · exact (gw_blk hg).2 c hc
            · have : c = 58 := by simpa using hc
              subst this; decide
          · rcases List.mem_append.1 hc with hc | hc
            · exact (hg.2 c hc).2.2.2.1
            · have : c = 58 := by simpa using hc
              subst this; decide)
        rw [Lib.join_one] at this
        exact this
      have hf : s.f ⟨(lb p).toArray⟩ = none := by
        cases e : s.f ⟨(lb p).toArray⟩ with
        | none => rfl
        | some v =>
          obtain ⟨h1, h2, h3⟩ := (h.fs _ _).1 e
          have := hL.inj p v hlb (ba_inj h3)
          omega
      refine ⟨_, rdR_one (ln_lab hw (hL.nm p hlb) hf), rfl, rfl, ?_⟩
      rw [hqs]
      exact fstep s.f h.fs hlb
  obtain ⟨s1, e1, q1, j1, f1⟩ := hlab
  unfold plines bas
  rw [List.map_append]
  have e1' : rdR ((if lb p = [] then [] else [lb p ++ [58]]).map (fun w => (⟨w.toArray⟩ : ByteArray))) i s = .ok s1 := e1
  rw [rdR_app _ _ i s s1 e1']
  by_cases hlt : p < l.length
  · rw [if_pos hlt]
    have hg : l.getD p ins0 = l[p] := by rw [List.getD_eq_getElem?_getD, List.getElem?_eq_getElem hlt]; rfl
    have hm : l.getD p ins0 ∈ l := by rw [hg]; exact List.getElem_mem hlt
    have G := hG _ hm
    obtain ⟨c, hc, h1, hq⟩ := G.c
    have hw := wds_join (wrdsT (l.getD p ins0) lb) (((i + ((if lb p = [] then [] else [lb p ++ [58]]).map (fun w => (⟨w.toArray⟩ : ByteArray))).length : Nat) : Int) + 1) (fun w hw => ⟨gw_blk (G.words hL w hw), fun c hc => ((G.words hL w hw).2 c hc).2.2.2.1⟩)
    obtain ⟨ps, e2, e3⟩ := ln_ins (s := s1) hc h1 hq G.n64 lb (fun hk => hL.nm _ (G.lb hk)) (by rw [q1, hqs]; omega) hw
    refine ⟨_, rdR_one e2, ?_, f1, ?_, ?_⟩
    · show s1.qs ++ [zt (l.getD p ins0)] = _
      rw [q1, h.qs, List.take_add_one, List.getElem?_eq_getElem hlt, hg, Option.toList_some, List.map_append]
      rfl
    · intro x hx
      have hx : x ∈ s1.js ++ ps.map (fun p => (s1.qs.length, p)) := hx
      rcases List.mem_append.1 hx with hx | hx
      · rw [j1] at hx; exact h.js x hx
      · obtain ⟨y, hy, rfl⟩ := List.mem_map.1 hx
        show s1.qs.length < l.length ∧ kdL (l.getD s1.qs.length ins0).code = true ∧ y.t = ⟨(lb (l.getD s1.qs.length ins0).to.toNat).toArray⟩
        rw [q1, hqs]
        have hyt : y.t ∈ ps.map (·.t) := List.mem_map.2 ⟨y, hy, rfl⟩
        rw [e3] at hyt
        by_cases hk : kdL (l.getD p ins0).code = true
        · rw [if_pos hk] at hyt
          exact ⟨hlt, hk, by simpa using hyt⟩
        · rw [if_neg hk] at hyt; cases hyt
    · intro k hk hkl hkd
      show ∃ x ∈ s1.js ++ ps.map (fun p => (s1.qs.length, p)), x.1 = k
      rcases (by omega : k < p ∨ k = p) with g | rfl
      · obtain ⟨x, hx, hxk⟩ := h.ja k g hkl hkd
        exact ⟨x, List.mem_append.2 (.inl (by rw [j1]; exact hx)), hxk⟩
      · rw [if_pos hkd] at e3
        cases ps with
        | nil => cases e3
        | cons y r => exact ⟨(s1.qs.length, y), List.mem_append.2 (.inr (by simp)), by rw [q1, hqs]⟩
  · rw [if_neg hlt]
    have hpn : p = l.length := by omega
    refine ⟨s1, rfl, ?_, f1, ?_, ?_⟩
    · rw [q1, h.qs, hpn, List.take_of_length_le (Nat.le_refl _), List.take_of_length_le (by omega)]
    · rw [j1]; exact h.js
    · intro k hk hkl hkd
      rw [j1]
      exact h.ja k (by omega) hkl hkd
theorem rd_from {l : List Ins} {lb : Nat → List UInt8} {n : Int} (hL : LB lb) (hG : ∀ q ∈ l, GI n lb q) (h64 : l.length ≤ 64) : ∀ (m p : Nat) (s : Sx) (i : Nat), p + m = l.length + 1 → RI0 l lb p s → ∃ s', rdR (bas ((List.range' p m).flatMap (plines l lb) ++ [[]])) i s = .ok s' ∧ RI0 l lb (l.length + 1) s'
  | 0, p, s, i, hm, h => by
    have hp : p = l.length + 1 := by omega
    subst hp
    refine ⟨s, ?_, h⟩
    show rdR [⟨#[]⟩] i s = _
    refine rdR_one ?_
    have : wds ⟨#[]⟩ ((i : Int) + 1) = [] := by
      have := wds_join [] ((i : Int) + 1) (fun w hw => by cases hw)
      rw [Lib.join_nil] at this
      simpa using this
    rw [this]
    rfl
  | m + 1, p, s, i, hm, h => by
    obtain ⟨s1, e1, h1⟩ := rd_place hL hG h64 (by omega) h i
    rw [List.range'_succ, List.flatMap_cons, List.append_assoc]
    unfold bas at e1 ⊢
    rw [List.map_append, rdR_app _ _ i s s1 e1]
    exact rd_from hL hG h64 m (p + 1) s1 _ (by omega) h1
theorem joR_all (f : ByteArray → Option Nat) (l : List Ins) : ∀ (js : List (Nat × Pc)) (qs : List Ins), (∀ x ∈ js, x.1 < qs.length ∧ ∃ v, f x.2.t = some v ∧ (v : Int) = (l.getD x.1 ins0).to) →
    ∃ qs', joR f js qs = .ok qs' ∧ qs'.length = qs.length ∧ ∀ i, i < qs.length → qs'.getD i ins0 = if ∃ x ∈ js, x.1 = i then { qs.getD i ins0 with to := (l.getD i ins0).to } else qs.getD i ins0
  | [], qs, _ => ⟨qs, rfl, rfl, fun i _ => by simp⟩
  | x :: r, qs, h => by
    obtain ⟨hx, v, hv, hv2⟩ := h x (by simp)
    obtain ⟨qs', e1, e2, e3⟩ := joR_all f l r (qs.set x.1 { qs.getD x.1 ins0 with to := (v : Int) }) (fun y hy => by
      have := h y (by simp [hy])
      rw [List.length_set]; exact this)
    refine ⟨qs', ?_, by rw [e2, List.length_set], fun i hi => ?_⟩
    · show (match f x.2.t with | none => (Except.error (107, x.2.ln, x.2.col) : Except Flt (List Ins)) | some v => joR f r (qs.set x.1 { qs.getD x.1 ins0 with to := (v : Int) })) = _
      rw [hv]
      exact e1
    · rw [e3 i (by rw [List.length_set]; exact hi)]
      by_cases e : x.1 = i
      · have eg : (qs.set x.1 { qs.getD x.1 ins0 with to := (v : Int) }).getD i ins0 = { qs.getD i ins0 with to := (l.getD i ins0).to } := by
          rw [← e, List.getD_eq_getElem?_getD, List.getElem?_set_self hx, hv2]; rfl
        rw [eg, if_pos (show ∃ y ∈ x :: r, y.1 = i from ⟨x, by simp, e⟩)]
        split <;> rfl
      · have eg : (qs.set x.1 { qs.getD x.1 ins0 with to := (v : Int) }).getD i ins0 = qs.getD i ins0 := by
          rw [List.getD_eq_getElem?_getD, List.getElem?_set_ne e, List.getD_eq_getElem?_getD]
        rw [eg]
        have : (∃ y ∈ x :: r, y.1 = i) ↔ ∃ y ∈ r, y.1 = i := by simp [e]
        by_cases g : ∃ y ∈ r, y.1 = i
        · rw [if_pos g, if_pos (this.2 g)]
        · rw [if_neg g, if_neg (fun z => g (this.1 z))]
end Go.Proofs.YtanmpioplckgbaaDoor
namespace Go.Proofs.YtanmpioplckgbaaDoor
open Go.RowKit
/-! The places that are jumped to. -/
theorem comp_str (d : Array Int) (hs : ∀ i j, i < j → j < d.size → d[i]! ≤ d[j]!) : ∀ m, m ≤ d.size → (Lib.compactUpTo d m).Pairwise (· < ·) ∧ ∀ x, x ∈ Lib.compactUpTo d m ↔ ∃ j, j < m ∧ d[j]! = x
  | 0, _ => ⟨by simp [Lib.compactUpTo], fun x => by simp [Lib.compactUpTo]⟩
  | m + 1, hm => by
    obtain ⟨i1, i2⟩ := comp_str d hs m (by omega)
    rw [Lib.compactUpTo_succ]
    by_cases hk : Lib.keeps d m = true
    · rw [if_pos hk]
      have hlt : ∀ x ∈ Lib.compactUpTo d m, x < d[m]! := fun x hx => by
        obtain ⟨j, hj, rfl⟩ := (i2 x).1 hx
        have h0 : m ≠ 0 := by omega
        have hne : d[m]! ≠ d[m - 1]! := by
          unfold Lib.keeps at hk
          simp [h0] at hk
          simpa using hk
        have h1 := hs (m - 1) m (by omega) (by omega)
        rcases (by omega : j = m - 1 ∨ j < m - 1) with rfl | g
        · omega
        · have h2 := hs j (m - 1) g (by omega)
          omega
      refine ⟨List.pairwise_append.2 ⟨i1, by simp, fun a ha b hb => ?_⟩, fun x => ?_⟩
      · have : b = d[m]! := by simpa using hb
        rw [this]; exact hlt a ha
      · rw [List.mem_append, i2]
        constructor
        · rintro (⟨j, hj, e⟩ | h)
          · exact ⟨j, by omega, e⟩
          · exact ⟨m, by omega, (by simpa using h : x = d[m]!).symm⟩
        · rintro ⟨j, hj, e⟩
          rcases (by omega : j < m ∨ j = m) with g | rfl
          · exact .inl ⟨j, g, e⟩
          · exact .inr (by simp [e])
    · rw [if_neg hk, List.append_nil]
      have hk' : Lib.keeps d m = false := by simpa using hk
      have h0 : m ≠ 0 := by
        intro e; rw [e] at hk'
        rw [Lib.keeps_lt_one d 0 (by omega)] at hk'
        cases hk'
      have he : d[m]! = d[m - 1]! := by
        unfold Lib.keeps at hk'
        simp [h0] at hk'
        simpa using hk'
      refine ⟨i1, fun x => ?_⟩
      rw [i2]
      constructor
      · rintro ⟨j, hj, e⟩; exact ⟨j, by omega, e⟩
      · rintro ⟨j, hj, e⟩
        rcases (by omega : j < m ∨ j = m) with g | rfl
        · exact ⟨j, g, e⟩
        · exact ⟨j - 1, by omega, by rw [← he]; exact e⟩
theorem tgS_ok (l : List Ins) : (tgS l).Pairwise (· < ·) ∧ (∀ x, x ∈ tgS l ↔ x ∈ tgs l) ∧ (tgS l).length ≤ l.length := by
  have hsrt : ((tgs l).mergeSort fun x y => decide (x ≤ y)).Pairwise (fun a b => decide (a ≤ b) = true) := List.pairwise_mergeSort (le := fun x y => decide (x ≤ y)) (fun a b c h1 h2 => by simp at *; omega) (fun a b => by simp; omega) _
  have hperm := List.mergeSort_perm (tgs l) (fun x y => decide (x ≤ y))
  unfold tgS Lib.compact
  generalize hd : (tgs l).mergeSort (fun x y => decide (x ≤ y)) = d at hsrt hperm
  have hget : ∀ i (h : i < d.length), d.toArray[i]! = d[i] := fun i h => by
    rw [getElem!_pos d.toArray i (by simpa using h)]; simp
  have key := comp_str d.toArray (fun i j hij hj => by
    have hj : j < d.length := by simpa using hj
    rw [hget i (by omega), hget j hj]
    have := List.pairwise_iff_getElem.1 hsrt i j (by omega) hj hij
    simpa using this) d.length (by simp)
  refine ⟨key.1, fun x => ?_, ?_⟩
  · rw [key.2, ← hperm.mem_iff]
    constructor
    · rintro ⟨j, hj, e⟩
      rw [hget j hj] at e
      rw [← e]; exact List.getElem_mem hj
    · intro hx
      obtain ⟨j, hj, e⟩ := List.mem_iff_getElem.1 hx
      exact ⟨j, hj, by rw [hget j hj]; exact e⟩
  · unfold Lib.compactUpTo
    rw [List.length_map]
    refine Nat.le_trans (List.length_filter_le _ _) ?_
    rw [List.length_range, hperm.length_eq]
    unfold tgs
    rw [List.length_map]
    exact List.length_filter_le _ _
theorem lbk_none {T : List Int} {p : Nat} (h : (p : Int) ∉ T) : ∀ k, k ≤ T.length → lbk T k p = []
  | 0, _ => rfl
  | k + 1, hk => by
    show (if (p : Int) = T.getD k 0 then _ else lbk T k p) = []
    rw [if_neg, lbk_none h k (by omega)]
    intro e
    apply h
    rw [e, List.getD_eq_getElem?_getD, List.getElem?_eq_getElem (by omega)]
    exact List.getElem_mem (by omega)
theorem lbk_some {T : List Int} (hT : T.Pairwise (· < ·)) {p j : Nat} (hj : j < T.length) (hp : T.getD j 0 = (p : Int)) : ∀ k, j < k → k ≤ T.length → lbk T k p = 108 :: Lib.itoa (j : Int)
  | 0, h, _ => absurd h (Nat.not_lt_zero _)
  | k + 1, h, hk => by
    show (if (p : Int) = T.getD k 0 then 108 :: Lib.itoa (k : Int) else lbk T k p) = _
    rcases (by omega : j = k ∨ j < k) with rfl | g
    · rw [if_pos hp.symm]
    · rw [if_neg, lbk_some hT hj hp k g (by omega)]
      rw [← hp]
      have := List.pairwise_iff_getElem.1 hT j k hj (by omega) g
      rw [List.getD_eq_getElem?_getD, List.getElem?_eq_getElem hj, List.getD_eq_getElem?_getD, List.getElem?_eq_getElem (show k < T.length by omega)]
      show ¬ T[j] = T[k]
      omega
theorem lb_cases {T : List Int} (hT : T.Pairwise (· < ·)) (p : Nat) : lbk T T.length p = [] ∨ ∃ j, j < T.length ∧ T.getD j 0 = (p : Int) ∧ lbk T T.length p = 108 :: Lib.itoa (j : Int) := by
  by_cases h : (p : Int) ∈ T
  · obtain ⟨j, hj, e⟩ := List.mem_iff_getElem.1 h
    have e' : T.getD j 0 = (p : Int) := by rw [List.getD_eq_getElem?_getD, List.getElem?_eq_getElem hj]; exact e
    exact .inr ⟨j, hj, e', lbk_some hT hj e' _ hj (Nat.le_refl _)⟩
  · exact .inl (lbk_none h _ (Nat.le_refl _))
theorem itoa_len2 {j : Nat} (h : j < 100) : (Lib.itoa (j : Int)).length ≤ 2 := by
  have e : Lib.itoa (j : Int) = Lib.decDigits j := by
    rw [itoa_pos' (by omega)]; rfl
  rw [e]
  by_cases g : j < 10
  · rw [dec_small g]; simp
  · rw [dec_big g, dec_small (by omega)]; simp
theorem nmB_lab {j : Nat} (h : j < 100) : nmB ⟨(108 :: Lib.itoa (j : Int)).toArray⟩ = true := by
  have hl := itoa_len2 h
  have hd : ∀ c ∈ Lib.itoa (j : Int), digB c = true := by
    rw [itoa_pos' (by omega)]
    exact fun c hc => List.all_eq_true.1 (dec_digs _) c hc
  unfold nmB
  have hs : (⟨(108 :: Lib.itoa (j : Int)).toArray⟩ : ByteArray).size = (Lib.itoa (j : Int)).length + 1 := by
    show ((108 :: Lib.itoa (j : Int)).toArray).size = _
    simp
  rw [hs]
  have a1 : ((Lib.itoa (j : Int)).length + 1 == 0) = false := by simp
  have a2 : decide ((Lib.itoa (j : Int)).length + 1 ≤ 16) = true := by simp; omega
  rw [a1, a2]
  simp only [Bool.not_false, Bool.true_and, List.all_eq_true, List.mem_range]
  intro i hi
  unfold chOk
  cases i with
  | zero => rfl
  | succ i =>
    have hg : (108 :: Lib.itoa (j : Int)).toArray.getD (i + 1) 0 = (Lib.itoa (j : Int))[i] := by
      rw [Array.getD_eq_getD_getElem?, List.getElem?_toArray, List.getElem?_cons_succ, List.getElem?_eq_getElem (by omega)]; rfl
    show (decide (97 ≤ ((108 :: Lib.itoa (j : Int)).toArray.getD (i + 1) 0).toNat) && _ || _) = true
    have h2 := (digB_iff _).1 (hd _ (List.getElem_mem (l := Lib.itoa (j : Int)) (n := i) (by omega)))
    have b1 : (decide (48 ≤ ((108 :: Lib.itoa (j : Int)).toArray.getD (i + 1) 0).toNat) && decide (((108 :: Lib.itoa (j : Int)).toArray.getD (i + 1) 0).toNat ≤ 57)) = true := by
      rw [hg]; simp [h2]
    have b2 : (!(i + 1 == 0)) = true := by simp
    rw [b2, b1]
    simp
theorem lb_ok (l : List Ins) (h : l.length ≤ 64) : LB (lbT l) := by
  obtain ⟨h1, _, h3⟩ := tgS_ok l
  have hc := fun p => lb_cases h1 p
  have hgw : ∀ j : Nat, YtanmpioplckgbaaDoor.gw (108 :: Lib.itoa (j : Int)) := fun j => gw_cons (by decide) (gw_itoa _)
  refine ⟨fun p hp => ?_, fun p hp => ?_, fun p => ?_, fun p q hp he => ?_⟩
  · rcases hc p with e | ⟨j, hj, _, e⟩
    · exact absurd e hp
    · show nmB ⟨(lbk (tgS l) (tgS l).length p).toArray⟩ = true
      rw [e]; exact nmB_lab (by omega)
  · rcases hc p with e | ⟨j, hj, _, e⟩
    · exact absurd e hp
    · show YtanmpioplckgbaaDoor.gw (lbk (tgS l) (tgS l).length p)
      rw [e]; exact hgw j
  · show (lbk (tgS l) (tgS l).length p).length ≤ 3
    rcases hc p with e | ⟨j, hj, _, e⟩
    · rw [e]; simp
    · rw [e, List.length_cons]
      have := itoa_len2 (j := j) (by omega)
      omega
  · have he : lbk (tgS l) (tgS l).length p = lbk (tgS l) (tgS l).length q := he
    rcases hc p with e | ⟨j, hj, ej, e⟩
    · exact absurd e hp
    · rcases hc q with e' | ⟨k, hk, ek, e'⟩
      · rw [e, e'] at he; cases he
      · rw [e, e'] at he
        injection he with _ he
        have r1 := round_to (j : Int) ⟨by omega, by omega⟩
        have r2 := round_to (k : Int) ⟨by omega, by omega⟩
        rw [he, r2.1] at r1
        have : k = j := by omega
        subst this
        rw [ej] at ek
        omega
theorem lb_to {l : List Ins} {q : Ins} {n : Int} (hq : q ∈ l) (hk : kdL q.code = true) (hc : q.can n = true) : lbT l q.to.toNat ≠ [] ∧ 0 ≤ q.to ∧ q.to ≤ n := by
  have hb : 0 ≤ q.to ∧ q.to ≤ n := by
    unfold Ins.can at hc
    simp only [Bool.and_eq_true] at hc
    have := hc.1.2.1.2
    unfold btw at this
    rw [hk, if_pos rfl] at this
    simpa using this
  obtain ⟨h1, h2, _⟩ := tgS_ok l
  refine ⟨?_, hb⟩
  have hm : q.to ∈ tgS l := (h2 _).2 (by
    unfold tgs
    exact List.mem_map.2 ⟨q, List.mem_filter.2 ⟨hq, hk⟩, rfl⟩)
  obtain ⟨j, hj, e⟩ := List.mem_iff_getElem.1 hm
  have e' : (tgS l).getD j 0 = ((q.to.toNat : Nat) : Int) := by
    rw [List.getD_eq_getElem?_getD, List.getElem?_eq_getElem hj]
    show (tgS l)[j] = _
    rw [e]; omega
  show lbk (tgS l) (tgS l).length q.to.toNat ≠ []
  rw [lbk_some h1 hj e' _ hj (Nat.le_refl _)]
  simp
end Go.Proofs.YtanmpioplckgbaaDoor
namespace Go.Proofs.YtanmpioplckgbaaDoor
open Go.RowKit
theorem join_len : ∀ (ws : List (List UInt8)), (Lib.join ws [32]).length + 1 ≤ (ws.map (fun w => w.length + 1)).sum + (if ws = [] then 1 else 0)
  | [] => by rw [Lib.join_nil]; simp
  | [w] => by rw [Lib.join_one]; simp
  | w :: v :: r => by
    have e : Lib.join (w :: v :: r) [32] = w ++ (32 :: Lib.join (v :: r) [32]) := by
      rw [Lib.join_cons, Lib.join_cons]; simp [Lib.joinTail]
    have i := join_len (v :: r)
    rw [e, List.length_append, List.length_cons, List.map_cons, List.sum_cons, if_neg (by simp)]
    rw [if_neg (by simp)] at i
    omega
theorem src_len {r : Bool} {n : Int} (hn : In64 n) : (srcT r n).length ≤ 21 := by
  have := (round_to n hn).2.2.2
  unfold srcT
  cases r <;> simp <;> omega
theorem dst_len {n : Int} (h : rg n = true) : (srcT true n).length ≤ 3 := by
  unfold rg at h
  simp at h
  obtain ⟨k, rfl⟩ : ∃ k : Nat, n = k := ⟨n.toNat, by omega⟩
  have := itoa_len2 (j := k) (by omega)
  unfold srcT
  simp; omega
def tl (s : Int) : Nat := if s = 1 then 3 else if s = 2 then 22 else if s = 3 then 21 else if s = 4 then 21 else if s = 5 then 2 else 3
theorem line_len {n : Int} {lb : Nat → List UInt8} {q : Ins} (h : GI n lb q) (hL : LB lb) : (lineT q lb).length + 1 ≤ 58 := by
  obtain ⟨c, hc, h1, hq⟩ := h.c
  have hct : q.code.toNat = c := by omega
  have hok : ∀ s ∈ slo c, q.oks n s = true := by
    unfold Ins.cab at hq
    simp only [Bool.and_eq_true] at hq
    exact List.all_eq_true.1 hq.1.2
  have ht : ∀ s ∈ slo c, (tldT q lb s).length ≤ tl s := fun s hs => by
    have hr := (slo_in h1).1 s hs
    rcases (by omega : s = 1 ∨ s = 2 ∨ s = 3 ∨ s = 4 ∨ s = 5 ∨ s = 6) with rfl | rfl | rfl | rfl | rfl | rfl
    · exact dst_len (hok _ hs)
    · have := src_len (r := q.oR) h.n64.1
      show (64 :: srcT q.oR q.oN).length ≤ 22
      rw [List.length_cons]; omega
    · exact src_len h.n64.2.1
    · exact src_len h.n64.2.2
    · obtain ⟨_, _, h3, h4⟩ := gw_rel (hok _ hs)
      show (relT q.rel.toNat).data.toList.length ≤ 2
      generalize q.rel.toNat = k at h3 h4
      rcases (by omega : k = 1 ∨ k = 2 ∨ k = 3 ∨ k = 4 ∨ k = 5 ∨ k = 6) with rfl | rfl | rfl | rfl | rfl | rfl <;> decide
    · exact hL.ln _
  have hnm : (nmT q).length ≤ 4 := by
    unfold nmT
    by_cases h6 : q.code = 6
    · rw [if_pos h6]
      have ho : isOp q.op = true := by
        have : c = 6 := by omega
        subst this
        unfold Ins.cab at hq
        simp at hq
        exact hq.1.1
      obtain ⟨_, _, h3, h4⟩ := gw_op ho
      generalize q.op.toNat = k at h3 h4
      rcases (by omega : k = 1 ∨ k = 2 ∨ k = 3 ∨ k = 4 ∨ k = 5 ∨ k = 6 ∨ k = 7 ∨ k = 8 ∨ k = 9 ∨ k = 10 ∨ k = 11 ∨ k = 12) with rfl | rfl | rfl | rfl | rfl | rfl | rfl | rfl | rfl | rfl | rfl | rfl <;> decide
    · rw [if_neg h6, hct]
      rcases (by omega : c = 1 ∨ c = 2 ∨ c = 3 ∨ c = 4 ∨ c = 5 ∨ c = 6 ∨ c = 7 ∨ c = 8 ∨ c = 9 ∨ c = 10) with rfl | rfl | rfl | rfl | rfl | rfl | rfl | rfl | rfl | rfl <;> decide
  have hsum : ∀ (ss : List Int), (∀ s ∈ ss, (tldT q lb s).length ≤ tl s) → ((ss.map (tldT q lb)).map (fun w => w.length + 1)).sum ≤ (ss.map (fun s => tl s + 1)).sum := by
    intro ss
    induction ss with
    | nil => intro _; exact Nat.le_refl _
    | cons s ss ih =>
      intro hh
      have a := hh s (by simp)
      have b := ih (fun x hx => hh x (by simp [hx]))
      simp only [List.map_cons, List.sum_cons]
      omega
  have hj := join_len (wrdsT q lb)
  have hne : wrdsT q lb ≠ [] := by unfold wrdsT; simp
  rw [if_neg hne] at hj
  have hb := hsum (slo c) ht
  have hc2 : ((slo c).map (fun s => tl s + 1)).sum ≤ 53 := by
    rcases (by omega : c = 1 ∨ c = 2 ∨ c = 3 ∨ c = 4 ∨ c = 5 ∨ c = 6 ∨ c = 7 ∨ c = 8 ∨ c = 9 ∨ c = 10) with rfl | rfl | rfl | rfl | rfl | rfl | rfl | rfl | rfl | rfl <;> decide
  unfold lineT
  unfold wrdsT at hj ⊢
  rw [hct, List.map_cons, List.sum_cons] at hj
  rw [hct]
  omega
theorem prn_len {l : List Ins} {lb : Nat → List UInt8} {n : Int} (hL : LB lb) (hG : ∀ q ∈ l, GI n lb q) : ∀ k, (prnK l lb k).length ≤ 5 * k + 58 * (min k l.length)
  | 0 => by simp [prnK]
  | k + 1 => by
    have i := prn_len hL hG k
    unfold prnK at i ⊢
    rw [List.range_succ, List.flatMap_append, List.length_append]
    have : (([k] : List Nat).flatMap (pcT l lb)).length ≤ 5 + (if k < l.length then 58 else 0) := by
      rw [List.flatMap_cons, List.flatMap_nil, List.append_nil]
      unfold pcT
      rw [List.length_append]
      have h1 : (if lb k = [] then [] else lb k ++ [58, 10]).length ≤ 5 := by
        have := hL.ln k
        split <;> simp; omega
      have h2 : (if k < l.length then lineT (l.getD k ins0) lb ++ [10] else []).length ≤ (if k < l.length then 58 else 0) := by
        by_cases h : k < l.length
        · rw [if_pos h, if_pos h]
          have hm : l.getD k ins0 ∈ l := by rw [List.getD_eq_getElem?_getD, List.getElem?_eq_getElem h]; exact List.getElem_mem h
          have := line_len (hG _ hm) hL
          rw [List.length_append]
          exact this
        · rw [if_neg h, if_neg h]; simp
      omega
    by_cases h : k < l.length
    · rw [if_pos h] at this
      omega
    · rw [if_neg h] at this
      omega
/-- A program's own text is read as the program. -/
theorem prn_prs {l : List Ins} (h64 : l.length ≤ 64) (hG : ∀ q ∈ l, q.can (l.length : Int) = true ∧ n64 q) : prsR ⟨(prn l).toArray⟩ = .ok l ∧ (prn l).length ≤ 4096 := by
  have hL := lb_ok l h64
  have hGI : ∀ q ∈ l, GI (l.length : Int) (lbT l) q := fun q hq => ⟨(hG q hq).1, (hG q hq).2, fun hk => (lb_to hq hk (hG q hq).1).1⟩
  have hlen : (prn l).length ≤ 4096 := by
    have := prn_len hL hGI (l.length + 1)
    have e : min (l.length + 1) l.length = l.length := by omega
    rw [e] at this
    unfold prn
    omega
  refine ⟨?_, hlen⟩
  have hsp : lns ⟨(prn l).toArray⟩ = bas ((List.range' 0 (l.length + 1)).flatMap (plines l (lbT l)) ++ [[]]) := by
    apply map_inj
    rw [lns_sp]
    show sp (prn l) = _
    unfold prn prnK
    rw [List.range_eq_range', sp_prn hL hGI]
    unfold bas
    rw [List.map_map]
    have : ((fun x : ByteArray => x.data.toList) ∘ fun w : List UInt8 => (⟨w.toArray⟩ : ByteArray)) = id := by funext w; simp
    rw [this, List.map_id]
  obtain ⟨s, e1, hs⟩ := rd_from hL hGI h64 (l.length + 1) 0 ⟨[], 0, fun _ => none, []⟩ 0 (by omega) { qs := by simp, fs := fun t v => by simp, js := fun x hx => absurd hx (by simp), ja := fun i hi => absurd hi (Nat.not_lt_zero _) }
  have hql : s.qs = l.map zt := by rw [hs.qs, List.take_of_length_le (by omega)]
  obtain ⟨qs', e2, e3, e4⟩ := joR_all s.f l s.js s.qs (fun x hx => by
    obtain ⟨h1, h2, h3⟩ := hs.js x hx
    have hm : l.getD x.1 ins0 ∈ l := by rw [List.getD_eq_getElem?_getD, List.getElem?_eq_getElem h1]; exact List.getElem_mem h1
    obtain ⟨a, b, c⟩ := lb_to hm h2 (hG _ hm).1
    refine ⟨by rw [hql, List.length_map]; exact h1, (l.getD x.1 ins0).to.toNat, ?_, by omega⟩
    rw [hs.fs]
    exact ⟨by omega, a, h3⟩)
  unfold prsR
  rw [if_neg (by show ¬ 4096 < ((prn l).toArray).size; simp; omega), hsp, e1]
  show joR s.f s.js s.qs = _
  rw [e2]
  congr 1
  rw [hql, List.length_map] at e3
  refine List.ext_getElem e3 (fun i h1 h2 => ?_)
  have hi := e4 i (by rw [hql, List.length_map]; exact h2)
  have g1 : qs'.getD i ins0 = qs'[i] := by rw [List.getD_eq_getElem?_getD, List.getElem?_eq_getElem h1]; rfl
  have g2 : l.getD i ins0 = l[i] := by rw [List.getD_eq_getElem?_getD, List.getElem?_eq_getElem h2]; rfl
  have g3 : s.qs.getD i ins0 = zt l[i] := by rw [hql, List.getD_eq_getElem?_getD, List.getElem?_map, List.getElem?_eq_getElem h2]; rfl
  rw [g1, g2, g3] at hi
  rw [hi]
  by_cases g : ∃ x ∈ s.js, x.1 = i
  · rw [if_pos g]; rfl
  · rw [if_neg g]
    have hk : kdL l[i].code ≠ true := fun hk => g (hs.ja i (by omega) h2 (by rw [g2]; exact hk))
    have hc := (hG _ (List.getElem_mem h2)).1
    have : l[i].to = 0 := by
      unfold Ins.can at hc
      simp only [Bool.and_eq_true] at hc
      have := hc.1.2.1.2
      unfold btw at this
      rw [if_neg hk] at this
      simpa using this
    show { l[i] with to := 0 } = l[i]
    rw [← this]
end Go.Proofs.YtanmpioplckgbaaDoor
namespace Go.Proofs.YtanmpioplckgbaaDoor
open Go.RowKit
/-- Does an instruction jump to the place? -/
def tgt (l : List Ins) (p : Nat) : Bool := l.any (fun q => kdL q.code && (q.to == (p : Int)))
/-- How many places below are jumped to. -/
def cnt (l : List Ins) (p : Nat) : Nat := ((List.range p).filter (tgt l)).length
theorem cnt_succ (l : List Ins) (p : Nat) : cnt l (p + 1) = cnt l p + (if tgt l p = true then 1 else 0) := by
  unfold cnt
  rw [List.range_succ, List.filter_append, List.length_append]
  congr 1
  cases h : tgt l p <;> simp [h]
theorem cnt_le (l : List Ins) (p : Nat) : cnt l p ≤ p := by
  unfold cnt
  exact Nat.le_trans (List.length_filter_le _ _) (by simp)
theorem tgt_mem {l : List Ins} {p : Nat} : tgt l p = true ↔ (p : Int) ∈ tgS l := by
  rw [(tgS_ok l).2.1]
  unfold tgt tgs
  rw [List.any_eq_true, List.mem_map]
  constructor
  · rintro ⟨q, hq, h⟩
    simp only [Bool.and_eq_true, beq_iff_eq] at h
    exact ⟨q, List.mem_filter.2 ⟨hq, h.1⟩, h.2⟩
  · rintro ⟨q, hq, h⟩
    obtain ⟨h1, h2⟩ := List.mem_filter.1 hq
    exact ⟨q, h1, by simp [h2, h]⟩
/-- How many of a rising list lie below. -/
theorem below_cnt {T : List Int} (hT : T.Pairwise (· < ·)) (h0 : ∀ x ∈ T, 0 ≤ x) : ∀ p : Nat, ((List.range p).filter (fun x : Nat => decide ((x : Int) ∈ T))).length = (T.filter (fun t => decide (t < (p : Int)))).length
  | 0 => by
    have : T.filter (fun t => decide (t < ((0 : Nat) : Int))) = [] := by
      rw [List.filter_eq_nil_iff]
      intro x hx
      have := h0 x hx
      simp; omega
    rw [this]; rfl
  | p + 1 => by
    rw [List.range_succ, List.filter_append, List.length_append, below_cnt hT h0 p]
    have key : ∀ (T : List Int), T.Pairwise (· < ·) → (T.filter (fun t => decide (t < ((p + 1 : Nat) : Int)))).length = (T.filter (fun t => decide (t < (p : Int)))).length + (if (p : Int) ∈ T then 1 else 0) := by
      intro T hT
      induction T with
      | nil => rfl
      | cons t r ih =>
        obtain ⟨h1, h2⟩ := List.pairwise_cons.1 hT
        have i := ih h2
        by_cases e : t = (p : Int)
        · subst e
          have hr : ∀ m : Int, m ≤ ((p + 1 : Nat) : Int) → r.filter (fun t => decide (t < m)) = [] := fun m hm => by
            rw [List.filter_eq_nil_iff]
            intro x hx
            have := h1 x hx
            simp; omega
          rw [List.filter_cons_of_pos (by simp; omega), List.filter_cons_of_neg (by simp), hr _ (by omega), hr _ (by omega)]
          simp
        · have hm : ((p : Int) ∈ t :: r) ↔ (p : Int) ∈ r := by simp [Ne.symm e]
          by_cases g : t < (p : Int)
          · rw [List.filter_cons_of_pos (by simp; omega), List.filter_cons_of_pos (by simpa using g), List.length_cons, List.length_cons, i]
            simp only [hm]
            omega
          · rw [List.filter_cons_of_neg (by simp; omega), List.filter_cons_of_neg (by simpa using g), i]
            simp only [hm]
    rw [key T hT]
    congr 1
    by_cases e : (p : Int) ∈ T <;> simp [e]
theorem idx_cnt {T : List Int} (hT : T.Pairwise (· < ·)) {j : Nat} {p : Int} (hj : T[j]? = some p) : (T.filter (fun t => decide (t < p))).length = j := by
  induction T generalizing j with
  | nil => simp at hj
  | cons t r ih =>
    obtain ⟨h1, h2⟩ := List.pairwise_cons.1 hT
    cases j with
    | zero =>
      have : t = p := by simpa using hj
      subst this
      rw [List.filter_cons_of_neg (by simp)]
      have : r.filter (fun x => decide (x < t)) = [] := by
        rw [List.filter_eq_nil_iff]
        intro x hx
        have := h1 x hx
        simp; omega
      rw [this]; rfl
    | succ j =>
      have hj : r[j]? = some p := by simpa using hj
      have := h1 p (List.mem_of_getElem? hj)
      rw [List.filter_cons_of_pos (by simpa using this), List.length_cons, ih h2 hj]
/-- A label, by counting. -/
theorem lb_cnt {l : List Ins} {p : Nat} (h0 : ∀ x ∈ tgs l, 0 ≤ x) : lbT l p = if tgt l p = true then 108 :: Lib.itoa (cnt l p : Int) else [] := by
  obtain ⟨h1, h2, _⟩ := tgS_ok l
  by_cases h : tgt l p = true
  · rw [if_pos h]
    have hm := tgt_mem.1 h
    obtain ⟨j, hj, e⟩ := List.mem_iff_getElem.1 hm
    have ej : (tgS l)[j]? = some (p : Int) := by rw [List.getElem?_eq_getElem hj, e]
    have e' : (tgS l).getD j 0 = (p : Int) := by rw [List.getD_eq_getElem?_getD, ej]; rfl
    have hc : cnt l p = j := by
      have a := below_cnt h1 (fun x hx => h0 x ((h2 x).1 hx)) p
      rw [idx_cnt h1 ej] at a
      rw [← a]
      unfold cnt
      congr 1
      refine List.filter_congr (fun x _ => ?_)
      rw [Bool.eq_iff_iff, tgt_mem]; simp
    rw [hc]
    exact lbk_some h1 hj e' _ hj (Nat.le_refl _)
  · rw [if_neg h]
    exact lbk_none (fun hm => h (tgt_mem.2 hm)) _ (Nat.le_refl _)
/-- The kinds' signs. -/
def sgn (s : Int) : UInt8 := if s = 1 then 100 else if s = 2 then 111 else if s = 3 then 120 else if s = 4 then 121 else if s = 5 then 114 else 108
end Go.Proofs.YtanmpioplckgbaaDoor
