import Derived.Test.YthmlppepgcjfgaaBdD
namespace Go.Proofs.Ythmlppepgcjfgaa
open Go.RowKit Go.Deep
attribute [local go_sem] Oper.semAt_some run_store_nf run_store_f
/-- The edges that were made ahead of a place. -/
def Done (ts : List Tv) (t u i : Nat) (e : Ed) : Prop := ∃ t' u' i', u' < ts.length ∧ Two ts t' u' ∧ i' < (ts.getD u' tv0).wrs.length ∧ EdT ts t' u' ((ts.getD u' tv0).wrs.getD i' wo0).object e ∧ (t' < t ∨ (t' = t ∧ (u' < u ∨ (u' = u ∧ i' < i))))
theorem Done.start (ts : List Tv) (e : Ed) : ¬ Done ts 0 0 0 e := by
  rintro ⟨t', u', i', -, -, -, -, h⟩
  omega
theorem Done.step {ts : List Tv} {t u i : Nat} (hu : u < ts.length) (h2 : Two ts t u) (hi : i < (ts.getD u tv0).wrs.length) (e : Ed) : Done ts t u (i + 1) e ↔ (Done ts t u i e ∨ EdT ts t u ((ts.getD u tv0).wrs.getD i wo0).object e) := by
  constructor
  · rintro ⟨t', u', i', q1, q2, q3, q4, q5⟩
    by_cases c : t' = t ∧ u' = u ∧ i' = i
    · obtain ⟨rfl, rfl, rfl⟩ := c
      exact .inr q4
    · exact .inl ⟨t', u', i', q1, q2, q3, q4, by omega⟩
  · rintro (⟨t', u', i', q1, q2, q3, q4, q5⟩ | q)
    · exact ⟨t', u', i', q1, q2, q3, q4, by omega⟩
    · exact ⟨t, u, i, hu, h2, hi, q, by omega⟩
theorem Done.nextU {ts : List Tv} {t u i : Nat} (hi : (ts.getD u tv0).wrs.length ≤ i) (e : Ed) : Done ts t (u + 1) 0 e ↔ Done ts t u i e := by
  constructor
  · rintro ⟨t', u', i', q1, q2, q3, q4, q5⟩
    refine ⟨t', u', i', q1, q2, q3, q4, ?_⟩
    by_cases c : u' = u
    · subst c; omega
    · omega
  · rintro ⟨t', u', i', q1, q2, q3, q4, q5⟩
    exact ⟨t', u', i', q1, q2, q3, q4, by omega⟩
theorem Done.skipU {ts : List Tv} {t u : Nat} (h : ¬ Two ts t u) (e : Ed) : Done ts t (u + 1) 0 e ↔ Done ts t u 0 e := by
  constructor
  · rintro ⟨t', u', i', q1, q2, q3, q4, q5⟩
    refine ⟨t', u', i', q1, q2, q3, q4, ?_⟩
    by_cases c : t' = t ∧ u' = u
    · obtain ⟨rfl, rfl⟩ := c
      exact absurd q2 h
    · omega
  · rintro ⟨t', u', i', q1, q2, q3, q4, q5⟩
    exact ⟨t', u', i', q1, q2, q3, q4, by omega⟩
theorem Done.nextT {ts : List Tv} {t u : Nat} (hu : ts.length ≤ u) (e : Ed) : Done ts (t + 1) 0 0 e ↔ Done ts t u 0 e := by
  constructor
  · rintro ⟨t', u', i', q1, q2, q3, q4, q5⟩
    exact ⟨t', u', i', q1, q2, q3, q4, by omega⟩
  · rintro ⟨t', u', i', q1, q2, q3, q4, q5⟩
    exact ⟨t', u', i', q1, q2, q3, q4, by omega⟩
theorem Done.all {ts : List Tv} (e : Ed) : Done ts ts.length 0 0 e ↔ EdA ts e := by
  constructor
  · rintro ⟨t', u', i', q1, q2, q3, q4, q5⟩
    exact ⟨t', u', i', by omega, q1, q2, q3, q4⟩
  · rintro ⟨t', u', i', q0, q1, q2, q3, q4⟩
    exact ⟨t', u', i', q1, q2, q3, q4, by omega⟩
/-- How many writes stand ahead of a place. -/
def wsum (ts : List Tv) : Nat → Nat
  | 0 => 0
  | u + 1 => wsum ts u + (ts.getD u tv0).wrs.length
theorem wsum_le (ts : List Tv) : ∀ {u v : Nat}, u ≤ v → wsum ts u ≤ wsum ts v := fun {u v} h => by
  induction v with
  | zero => obtain rfl : u = 0 := by omega
            exact Nat.le_refl _
  | succ v ih =>
    by_cases e : u = v + 1
    · rw [e]; exact Nat.le_refl _
    · have := ih (by omega)
      show _ ≤ wsum ts v + _
      omega
/-- The edges so far, in memory. -/
structure OE (base : Nat) (W : World) (v : Value) (ln : Nat) (l : List Ed) : Prop where
  o : W.ownsRow base 34 4 v ln (ecl l)
  n : ln = l.length
theorem OE.keep {base ln : Nat} {W W' : World} {v : Value} {l : List Ed} (h : OE base W v ln l) (k : Keeps (fun _ => False) W W') : OE base W' v ln l := ⟨k.owns h.o (fun _ _ e => e), h.n⟩
def BuP (ts : List Tv) (w : World) (e : Ending) (w' : World) : Prop := ∃ va vc l ec, e = .returned (.tuple #[.slice va l.length vc, .int .i64 ec]) ∧ w'.ownsRow w.heap.size 34 4 (.slice va l.length vc) l.length (ecl l) ∧ BuA ts l ec ∧ Keeps (fun _ => False) w w'
theorem put_oe {base ln lc : Nat} {W : World} {la : Option Addr} {l : List Ed} (h : OE base W (.slice la ln lc) ln l) (hb : base ≤ W.heap.size) (hn : ln ≤ 4398046510000) (x : Ed) : Calls Try.prog 15 #[.slice la ln lc, .agg #[.int .i64 x.f, .int .i64 x.t, .int .i64 x.k, .int .i64 x.o]] W fun e w' => ∃ la' ln' lc', e = .returned (.slice la' ln' lc') ∧ (OE base w' (.slice la' ln' lc') ln' (insE x l) ∧ ln' ≤ ln + 1) ∧ Keeps (fun _ => False) W w' := by
  obtain ⟨a', c', e, hE, -⟩ := el_of h.o
  injection e with e1 _ e3
  subst e1 e3
  have hn2 := h.n
  have hp := rput_any (cap := lc) hE (by omega) x
  rw [← hn2] at hp
  refine hp.mono ?_
  rintro e w' ⟨v, rfl, ho, k⟩
  obtain ⟨a2, c2, e2, -⟩ := own_slice ho
  subst e2
  exact ⟨a2, _, c2, rfl, ⟨⟨owns_low ho hb, rfl⟩, by have := insE_len x l; omega⟩, k⟩
def addW (wb : Bool) (eu et : Int) (u t : Nat) (x : Int) (l : List Ed) : List Ed := if wb = true ∧ eu < et then insE ⟨(u : Int), (t : Int), 1, x⟩ l else l
def addX (wb rb : Bool) (eu et ft : Int) (u t : Nat) (x : Int) (l : List Ed) : List Ed := if rb = true then (if eu < ft then insE ⟨(u : Int), (t : Int), 0, x⟩ (addW wb eu et u t x l) else insE ⟨(t : Int), (u : Int), 2, x⟩ (addW wb eu et u t x l)) else addW wb eu et u t x l
theorem addW_srt {wb : Bool} {eu et : Int} {u t : Nat} {x : Int} {l : List Ed} (h : SrtE l) : SrtE (addW wb eu et u t x l) := by unfold addW; split; exact insE_srt h; exact h
theorem addX_srt {wb rb : Bool} {eu et ft : Int} {u t : Nat} {x : Int} {l : List Ed} (h : SrtE l) : SrtE (addX wb rb eu et ft u t x l) := by
  unfold addX
  split
  · split
    · exact insE_srt (addW_srt h)
    · exact insE_srt (addW_srt h)
  · exact addW_srt h
theorem addW_mem {wb : Bool} {eu et : Int} {u t : Nat} {x : Int} {l : List Ed} {e : Ed} : e ∈ addW wb eu et u t x l ↔ (e ∈ l ∨ (wb = true ∧ eu < et ∧ e = ⟨(u : Int), (t : Int), 1, x⟩)) := by
  unfold addW
  split
  · next h =>
    rw [insE_mem]
    constructor
    · rintro (q | q)
      · exact .inl q
      · exact .inr ⟨h.1, h.2, q⟩
    · rintro (q | q)
      · exact .inl q
      · exact .inr q.2.2
  · next h =>
    constructor
    · exact fun q => .inl q
    · rintro (q | q)
      · exact q
      · exact absurd ⟨q.1, q.2.1⟩ h
theorem addX_mem {ts : List Tv} {t u : Nat} {x : Int} {l : List Ed} {e : Ed} : e ∈ addX (wrB (ts.getD t tv0) x) (rdB (ts.getD t tv0) x) (ts.getD u tv0).end_ (ts.getD t tv0).end_ (ts.getD t tv0).fnl u t x l ↔ (e ∈ l ∨ EdT ts t u x e) := by
  unfold addX EdT
  split
  · next h1 =>
    split
    · next h2 =>
      rw [insE_mem, addW_mem]
      constructor
      · rintro ((q | q) | q)
        · exact .inl q
        · exact .inr (.inl q)
        · exact .inr (.inr (.inl ⟨h1, h2, q⟩))
      · rintro (q | q | q | q)
        · exact .inl (.inl q)
        · exact .inl (.inr q)
        · exact .inr q.2.2
        · exact absurd h2 q.2.1
    · next h2 =>
      rw [insE_mem, addW_mem]
      constructor
      · rintro ((q | q) | q)
        · exact .inl q
        · exact .inr (.inl q)
        · exact .inr (.inr (.inr ⟨h1, h2, q⟩))
      · rintro (q | q | q | q)
        · exact .inl (.inl q)
        · exact .inl (.inr q)
        · exact absurd q.2.1 h2
        · exact .inr q.2.2
  · next h1 =>
    rw [addW_mem]
    constructor
    · rintro (q | q)
      · exact .inl q
      · exact .inr (.inl q)
    · rintro (q | q | q | q)
      · exact .inl q
      · exact .inr q
      · exact absurd q.1 h1
      · exact absurd q.1 h1
theorem edn : ∀ (b : Bool), ¬ b = true → b = false := by decide
end Go.Proofs.Ythmlppepgcjfgaa
