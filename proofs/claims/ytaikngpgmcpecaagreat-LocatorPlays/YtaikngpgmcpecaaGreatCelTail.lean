import Derived.Test.YtaikngpgmcpecaaGreatCelB
import Derived.Test.YtaikngpgmcpecaaGreatCelBS
import Derived.IntWalk
import Derived.RangeFuncNested
import Derived.RangeFuncBound
import Derived.RangeFuncCalls
import Derived.RangeFuncLeaves
import Derived.RangeFuncBox
import Derived.Shelf.Abstract
import Derived.Shelf.RegionOpen
import Derived.WalkKit
import Derived.OwnWalkIn
import Derived.TacticsInMore
import Derived.LoopNIn
import Derived.LoopIn
import Derived.Maps.AppendAt
namespace Go.Proofs.YtaikngpgmcpecaaGreat
open Go.RowKit Go.Shelf
attribute [local go_sem] Oper.semAt_some

/-- What has come when k rounds are over. -/
def upto {α : Type} (f : Nat → α) (k : Nat) : List α := (List.range k).map f
theorem upto_succ {α : Type} (f : Nat → α) (k : Nat) : upto f (k + 1) = upto f k ++ [f k] := by simp [upto, List.range_succ]
theorem upto_length {α : Type} (f : Nat → α) (k : Nat) : (upto f k).length = k := by simp [upto]
/-- A row's number and the row. -/
abbrev NR := Nat × Rw
def nrs (l : List Rw) (st j : Nat) : NR := (st + j, ra l (st + j))
def encs (x : NR) : Array Value := #[.int .i64 (x.1 : Int), .agg #[.int .i64 x.2.step, .int .i64 x.2.thread, .int .i64 x.2.kind, .int .i64 x.2.cell, .int .i64 x.2.seen, .int .i64 x.2.wrote, .bool x.2.done]]

/-- The rows of a list, in block g. -/
def RowsAt (w : World) (a : Option Addr) (l : List Rw) : Prop := l.length = 0 ∨ ∃ g, a = some ⟨g, 0, none⟩ ∧ g < w.heap.size ∧ ∀ i, i < l.length → RowAt w g (i * 7) (ra l i)
theorem MV.rows {w : World} {mb : Nat} {vc vl : Value} {s : Mm} (h : MV w mb vc vl s) : ∃ a cap, vl = .slice a s.log.length cap ∧ RowsAt w a s.log ∧ (∀ g, a = some ⟨g, 0, none⟩ → vl.ownBlock = some g) := by
  obtain ⟨a, cap, rfl, hs⟩ := h.lslice
  refine ⟨a, cap, rfl, ?_, fun g e => by rw [e]; rfl⟩
  by_cases h0 : s.log.length = 0
  · exact .inl h0
  · obtain ⟨g, rfl, hg⟩ := hs (by omega)
    exact .inr ⟨g, rfl, owns_lt' h.rl g hg, fun i hi => h.row hg hi⟩
/-- What a round must leave alone. -/
def KR (a : Option Addr) (N : Nat) (W W' : World) : Prop := ∀ g, a = some ⟨g, 0, none⟩ → ∀ o u, o < N * 7 → W.cell? ⟨g, o, none⟩ = some u → W'.cell? ⟨g, o, none⟩ = some u
theorem RowAt.kr {a : Option Addr} {N g i : Nat} {r : Rw} {W W' : World} (h : RowAt W g (i * 7) r) (k : KR a N W W') (ha : a = some ⟨g, 0, none⟩) (hi : i < N) : RowAt W' g (i * 7) r :=
  ⟨k g ha _ _ (by omega) h.r0, k g ha _ _ (by omega) h.r1, k g ha _ _ (by omega) h.r2, k g ha _ _ (by omega) h.r3, k g ha _ _ (by omega) h.r4, k g ha _ _ (by omega) h.r5, k g ha _ _ (by omega) h.r6⟩
theorem RowAt.below {g o n : Nat} {r : Rw} {W W' : World} (h : RowAt W g o r) (k : Below n W W') (hg : g < n) : RowAt W' g o r :=
  ⟨(k.cell (p := ⟨g, _, none⟩) hg).trans h.r0, (k.cell (p := ⟨g, _, none⟩) hg).trans h.r1, (k.cell (p := ⟨g, _, none⟩) hg).trans h.r2, (k.cell (p := ⟨g, _, none⟩) hg).trans h.r3, (k.cell (p := ⟨g, _, none⟩) hg).trans h.r4, (k.cell (p := ⟨g, _, none⟩) hg).trans h.r5, (k.cell (p := ⟨g, _, none⟩) hg).trans h.r6⟩

set_option maxRecDepth 100000 in
set_option maxHeartbeats 3200000 in
/-- Tail's iterator. -/
theorem tail1_in (n : Nat) (hn : 1 ≤ n) (l B1 B2 mb : Nat) (from_ : Int) (st : Nat) (hst : (st : Int) = max from_ 0) (a : Option Addr) (cap : Nat) (L : List Rw) (hL : L.length ≤ 4611686018427387904) (Kp : World → World → Prop) (hKp : ∀ W W', Kp W W' → KR a L.length W W') (J Jx : List NR → World → Prop)
    (hY : ∀ pre x W, J pre W → pre.length < L.length - st → YieldAt Fence.wide (n - 1) Tryz.prog l (encs x) W fun e W' =>
      (e = .returned (.bool true) ∧ J (pre ++ [x]) W' ∧ Kp W W') ∨ (e = .returned (.bool false) ∧ Jx (pre ++ [x]) W'))
    (W : World) (hB1 : W.cell? ⟨B1, 0, none⟩ = some (.pointer (some ⟨mb, 0, none⟩))) (hB2 : W.cell? ⟨B2, 0, none⟩ = some (.int .i64 from_)) (hl : W.cell? ⟨mb, 1, none⟩ = some (.slice a L.length cap)) (hr : RowsAt W a L) (h0 : J [] W) :
    CallsIn Fence.wide n Tryz.prog 85 #[.func (.yield l) #[] #[], .pointer (some ⟨B1, 0, none⟩), .pointer (some ⟨B2, 0, none⟩)] W fun e W' => (∃ v, e = .returned v) ∧
      ((∃ ys, ys = upto (nrs L st) (L.length - st) ∧ J ys W') ∨ (∃ pre, (∃ k, 0 < k ∧ k ≤ L.length - st ∧ pre = upto (nrs L st) k) ∧ Jx pre W')) := by
  have hp := peq mb
  refine callsIn_of_wp Tryz.func85 rfl trivial ?_
  simp only [Tryz.ntmps85, List.size_toArray, List.length_cons, List.length_nil, Nat.reduceAdd, Nat.reduceSub, Array.replicate_succ, Array.replicate_zero, List.push_toArray, List.append_toArray, List.nil_append, List.cons_append]
  have hmx : ∀ w, (Builtin.max_ #[3, 3] 3 #[.int .i64 from_, .int .i64 0]).run Tryz.prog w = .ok (.int .i64 (st : Int)) w := fun w => by
    rw [hst]
    by_cases hf : from_ < 0
    · have e : max from_ 0 = 0 := by omega
      rw [e]; simp [Builtin.max_, Builtin.max2, hf]
    · have e : max from_ 0 = from_ := by omega
      rw [e]; simp [Builtin.max_, Builtin.max2, hf]
  clear hst
  gi_wp2
  clear hB1 hB2 hl
  gi_loopw [5] (fun i wr => ∃ k : Nat, (k ≤ L.length - st) ∧ i = .int .i64 ((st + k : Nat) : Int) ∧ J (upto (nrs L st) k) wr ∧ KR a L.length W wr)
    (fun i _ => L.length - (intOf i).toNat)
  case atStart => exact ⟨0, Nat.zero_le _, rfl, h0, fun _ _ _ _ _ h => h⟩
  case round =>
    obtain ⟨k, hk, rfl, hJs, hnx⟩ := hrel
    by_cases hlt : st + k < L.length
    · rcases hr with hr | ⟨g, rfl, hg, hr⟩
      · omega
      · have R := (hr (st + k) hlt).kr hnx rfl hlt
        obtain ⟨fn, tmps, assign, body, hy, hR⟩ := hY _ (nrs L st k) wr hJs (by rw [upto_length]; omega)
        have hiI : ((st + k : Nat) : Int) < (L.length : Int) := by omega
        have r0 := R.r0
        have r1 := R.r1
        have r2 := R.r2
        have r3 := R.r3
        have r4 := R.r4
        have r5 := R.r5
        have r6 := R.r6
        simp only [encs, nrs] at hy
        generalize ra L (st + k) = r at hy r0 r1 r2 r3 r4 r5 r6
        generalize hm : st + k = m at *
        clear R
        gi_wp2
        refine hR.mono ?_
        rintro e W3 (⟨rfl, hJ3, hk3⟩ | ⟨rfl, hJx3⟩)
        · gi_wp2
          go_roundw
          case rel => exact ⟨k + 1, by omega, by simp [← hm]; omega, by rw [upto_succ]; exact hJ3, fun g' e o u ho h => hKp _ _ hk3 g' e o u ho (hnx g' e o u ho h)⟩
          case measure => simp [intOf]; omega
        · gi_wp2
          refine bodyPost_ret (results_none rfl _ _ _) rfl ?_
          exact ⟨⟨_, rfl⟩, .inr ⟨_, ⟨k + 1, by omega, by omega, (upto_succ _ _).symm⟩, hJx3⟩⟩
    · have hiI : ¬ ((st + k : Nat) : Int) < (L.length : Int) := by omega
      have hk' : k = L.length - st := by omega
      gi_wp2
      go_end0
      exact ⟨⟨_, rfl⟩, .inl (hk' ▸ hJs)⟩
end Go.Proofs.YtaikngpgmcpecaaGreat
