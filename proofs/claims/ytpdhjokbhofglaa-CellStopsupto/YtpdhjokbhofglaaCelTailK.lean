import Derived.Test.YtpdhjokbhofglaaCelLog
namespace Go.Proofs.Ytpdhjokbhofglaa
open Go.RowKit Go.Shelf
attribute [local go_sem] Oper.semAt_some

set_option maxRecDepth 100000 in
set_option maxHeartbeats 3200000 in
/-- Tail's iterator. -/
theorem tail1_k (n : Nat) (hn : 1 ≤ n) (l B1 B2 mb : Nat) (from_ : Int) (st : Nat) (hst : (st : Int) = max from_ 0) (a : Option Addr) (cap : Nat) (L : List Rw) (hL : L.length ≤ 4611686018427387904) (Kp : World → World → Prop) (hKp : ∀ W W', Kp W W' → KR a L.length W W') (J Jx : Nat → World → Prop)
    (hY : ∀ k W, k < L.length - st → J k W → YieldAt Fence.wide (n - 1) Try.prog l (encs (nrs L st k)) W fun e W' =>
      (e = .returned (.bool true) ∧ J (k + 1) W' ∧ Kp W W') ∨ (e = .returned (.bool false) ∧ Jx (k + 1) W'))
    (W : World) (hB1 : W.cell? ⟨B1, 0, none⟩ = some (.pointer (some ⟨mb, 0, none⟩))) (hB2 : W.cell? ⟨B2, 0, none⟩ = some (.int .i64 from_)) (hl : W.cell? ⟨mb, 1, none⟩ = some (.slice a L.length cap)) (hr : RowsAt W a L) (h0 : J 0 W) :
    CallsIn Fence.wide n Try.prog 18 #[.func (.yield l) #[] #[], .pointer (some ⟨B1, 0, none⟩), .pointer (some ⟨B2, 0, none⟩)] W fun e W' => (∃ v, e = .returned v) ∧
      (J (L.length - st) W' ∨ ∃ k, 0 < k ∧ k ≤ L.length - st ∧ Jx k W') := by
  have hp := peq mb
  refine callsIn_of_wp Try.func18 rfl trivial ?_
  simp only [Try.ntmps18, List.size_toArray, List.length_cons, List.length_nil, Nat.reduceAdd, Nat.reduceSub, Array.replicate_succ, Array.replicate_zero, List.push_toArray, List.append_toArray, List.nil_append, List.cons_append]
  have hmx : ∀ w, (Builtin.max_ #[3, 3] 3 #[.int .i64 from_, .int .i64 0]).run Try.prog w = .ok (.int .i64 (st : Int)) w := fun w => by
    rw [hst]
    by_cases hf : from_ < 0
    · have e : max from_ 0 = 0 := by omega
      rw [e]; simp [Builtin.max_, Builtin.max2, hf]
    · have e : max from_ 0 = from_ := by omega
      rw [e]; simp [Builtin.max_, Builtin.max2, hf]
  clear hst
  gi_wp2
  clear hB1 hB2 hl
  gi_loopw [5] (fun i wr => ∃ k : Nat, (k ≤ L.length - st) ∧ i = .int .i64 ((st + k : Nat) : Int) ∧ J k wr ∧ KR a L.length W wr)
    (fun i _ => L.length - (intOf i).toNat)
  case atStart => exact ⟨0, Nat.zero_le _, rfl, h0, fun _ _ _ _ _ h => h⟩
  case round =>
    obtain ⟨k, hk, rfl, hJs, hnx⟩ := hrel
    by_cases hlt : st + k < L.length
    · rcases hr with hr | ⟨g, rfl, hg, hr⟩
      · omega
      · have R := (hr (st + k) hlt).kr hnx rfl hlt
        obtain ⟨fn, tmps, assign, body, hy, hR⟩ := hY k wr (by omega) hJs
        have hiI : ((st + k : Nat) : Int) < (L.length : Int) := by omega
        have r0 := R.r0
        have r1 := R.r1
        have r2 := R.r2
        have r3 := R.r3
        have r4 := R.r4
        have r5 := R.r5
        have r6 := R.r6
        simp only [encs, nrs] at hy
        generalize ra L (st + k) = r at hy r0 r1 r2 r3 r4 r5 r6
        generalize hm : st + k = m at *
        clear R
        gi_wp2
        refine hR.mono ?_
        rintro e W3 (⟨rfl, hJ3, hk3⟩ | ⟨rfl, hJx3⟩)
        · gi_wp2
          go_roundw
          case rel => exact ⟨k + 1, by omega, by simp [← hm]; omega, hJ3, fun g' e o u ho h => hKp _ _ hk3 g' e o u ho (hnx g' e o u ho h)⟩
          case measure => simp [intOf]; omega
        · gi_wp2
          refine bodyPost_ret (results_none rfl _ _ _) rfl ?_
          exact ⟨⟨_, rfl⟩, .inr ⟨k + 1, by omega, by omega, hJx3⟩⟩
    · have hiI : ¬ ((st + k : Nat) : Int) < (L.length : Int) := by omega
      have hk' : k = L.length - st := by omega
      gi_wp2
      go_end0
      exact ⟨⟨_, rfl⟩, .inl (hk' ▸ hJs)⟩

/-- The first k of N. -/
def idx (N k : Nat) : List (Fin N) := (List.finRange N).take k
theorem idx_zero (N : Nat) : idx N 0 = [] := rfl
theorem idx_length {N k : Nat} (h : k ≤ N) : (idx N k).length = k := by simp [idx, Nat.min_eq_left h]
theorem idx_succ {N k : Nat} (h : k < N) : idx N (k + 1) = idx N k ++ [⟨k, h⟩] := by
  unfold idx
  rw [List.take_add_one]
  simp [h]

/-- Tail's value gives the rows from a number on, or a part of them; each comes with its place. -/
theorem tail_stopsF (n : Nat) (hn : 1 ≤ n) (B1 B2 mb : Nat) (from_ : Int) (st : Nat) (hst : (st : Int) = max from_ 0) (a : Option Addr) (cap : Nat) (L : List Rw) (hL : L.length ≤ 4611686018427387904) (Kp : World → World → Prop) (hKp : ∀ W W', Kp W W' → KR a L.length W W')
    (w : World) (hB1 : w.cell? ⟨B1, 0, none⟩ = some (.pointer (some ⟨mb, 0, none⟩))) (hB2 : w.cell? ⟨B2, 0, none⟩ = some (.int .i64 from_)) (hl : w.cell? ⟨mb, 1, none⟩ = some (.slice a L.length cap)) (hr : RowsAt w a L) :
    SeqStopsK Fence.wide n Try.prog 18 #[.pointer (some ⟨B1, 0, none⟩), .pointer (some ⟨B2, 0, none⟩)] (fun j : Fin (L.length - st) => encs (nrs L st j)) Kp (fun ys => ys = idx (L.length - st) (L.length - st)) (fun pre => ∃ k, 0 < k ∧ k ≤ L.length - st ∧ pre = idx (L.length - st) k) (L.length - st) w := fun l J Jx W hW _ _ hY h0 => by
  refine (tail1_k n hn l B1 B2 mb from_ st hst a cap L hL Kp hKp (fun k W => J (idx (L.length - st) k) W) (fun k W => Jx (idx (L.length - st) k) W) (fun k W hk hJ => ?_) W ((hW.cell (p := ⟨B1, 0, none⟩) (World.block_lt_of_cell? _ _ hB1)).trans hB1) ((hW.cell (p := ⟨B2, 0, none⟩) (World.block_lt_of_cell? _ _ hB2)).trans hB2) ((hW.cell (p := ⟨mb, 1, none⟩) (World.block_lt_of_cell? _ _ hl)).trans hl) (hr.below hW rfl) h0).mono ?_
  · have := hY (idx _ k) ⟨k, hk⟩ W hJ (by rw [idx_length (Nat.le_of_lt hk)]; exact hk)
    rw [← idx_succ hk] at this
    exact this
  · rintro e W' ⟨hv, h | ⟨k, h1, h2, h⟩⟩
    · exact ⟨hv, .inl ⟨_, rfl, h⟩⟩
    · exact ⟨hv, .inr ⟨_, ⟨k, h1, h2, rfl⟩, h⟩⟩
end Go.Proofs.Ytpdhjokbhofglaa
