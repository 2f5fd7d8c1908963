import Derived.Test.YthmoimilhbmagacDoorRoundFacts
namespace Go.Proofs.YthmoimilhbmagacDoor
open Go.ChangeShapes Go.WideShapes Go.ChangeAt Go.RowKit

theorem var_keeps {P : Program} {w w' : World} {n : String} {cs : Array Value} (hb : Below w.heap.size w w') (h : w.var? P n = some cs) : w'.var? P n = some cs := by
  cases hg : P.globalNamed n with
  | none => simp [World.var?, hg] at h
  | some g =>
    by_cases hlt : g < w.heap.size
    · exact var?_below hb hg hlt h
    · have : w.heap[g]? = none := by simp; omega
      simp [World.var?, hg, this] at h
/-- What the laid variables hold. -/
def Env (w : World) : Prop := Lib.TabIs Tryd.prog w "internal/strconv.uint64pow10" .u64 Lib.pow10Tab ∧ ErrIs w
theorem Env.step {w w' : World} (h : Env w) (hb : Below w.heap.size w w') : Env w' :=
  ⟨var_keeps hb h.1, by obtain ⟨tp, p, hv⟩ := h.2; exact ⟨tp, p, var_keeps hb hv⟩⟩

theorem format_T (n : Int) (hn : In64 n) (w : World) (he : Env w) :
    Calls Tryd.prog 6 #[.int .i64 n] w fun e w' => ∃ T : ByteArray, e = .returned (.string T) ∧ T.toList = Lib.itoa n ∧ T.size ≤ 20 ∧ 1 ≤ T.size ∧ Below w.heap.size w w' := by
  refine (format_any n hn w he.1).mono ?_
  rintro e w' ⟨rfl, hb⟩
  have e1 : (⟨(Lib.itoa n).toArray⟩ : ByteArray).toList = Lib.itoa n := by rw [list_of]
  obtain ⟨_, _, h1, h2⟩ := round_to n hn
  have e2 := list_len ⟨(Lib.itoa n).toArray⟩
  rw [e1] at e2
  exact ⟨_, rfl, e1, by omega, by omega, hb⟩

theorem one_list (T : ByteArray) : (⟨#[49]⟩ ++ T : ByteArray).toList = 49 :: T.toList := by
  rw [list_of, ByteArray.data_append, Array.toList_append, ← list_of T]; rfl
set_option maxHeartbeats 1000000 in
theorem round_walk (n : Int) (s : ByteArray) (hn : In64 n) (hs : s.size ≤ 281474976710656) (w : World) (he : Env w) :
    Calls Tryd.prog 3 #[.int .i64 n, .string s] w fun e w' => e = .returned (.bool true) ∧ Below w.heap.size w w' := by
  obtain ⟨r1, r2, _, _⟩ := round_to n hn
  go_enter Tryd.func3, Tryd.ntmps3
  go_wp2_with fail
  refine (format_T n hn _ he).mono ?_
  rintro e w1 ⟨T, rfl, hT, t1, t2, hb1⟩
  rw [← hT] at r1 r2
  have f1 : (prsV T.toList != n) = false := neF r1
  have b1 : decide ((T.size : Int) < 1) = false := by simp; omega
  have b2 : decide ((20 : Int) < (T.size : Int)) = false := by simp; omega
  have HT : Hid (_ = _) := hT
  have he1 := he.step hb1
  have HB : Hid (Below w.heap.size w w1) := hb1
  clear hT hb1 r1
  go_wp2_with fail
  refine (parse_any T _ (by omega) he1.2).mono ?_
  rintro e w2 ⟨rfl, hb2⟩
  have he2 := he1.step hb2
  have HB2 : Hid (Below w.heap.size w w2) := HB.out.trans (hb2.mono HB.out.size)
  clear hb2 he1 HB
  by_cases c : prsE s.toList = 0
  · obtain ⟨q1, q2⟩ := round_from c
    have Q1 : Hid (_ = _) := q1
    clear q1
    go_wp2_with fail
    refine (parse_any s _ hs he2.2).mono ?_
    rintro e w3 ⟨rfl, hb3⟩
    have he3 := he2.step hb3
    have HB3 : Hid (Below w.heap.size w w3) := HB2.out.trans (hb3.mono HB2.out.size)
    clear hb3 he2 HB2
    go_wp2_with fail
    refine (format_T _ q2 _ he3).mono ?_
    rintro e w4 ⟨T2, rfl, hT2, _, _, hb4⟩
    have g : (T2.toList == s.toList) = true := by rw [hT2, Q1.out]; simp
    have HB4 : Hid (Below w.heap.size w w4) := HB3.out.trans (hb4.mono HB3.out.size)
    clear hb4 hT2
    go_wp2
    go_ret
    exact ⟨rfl, HB4.out⟩
  · obtain ⟨q1, q2⟩ := round_else c
    have c' : (prsE s.toList == 0) = false := by simp [c]
    have q1' : (prsV s.toList != 0) = false := neF q1
    clear q1 c
    go_wp2_with fail
    refine (parse_any s _ hs he2.2).mono ?_
    rintro e w3 ⟨rfl, hb3⟩
    have he3 := he2.step hb3
    have HB3 : Hid (Below w.heap.size w w3) := HB2.out.trans (hb3.mono HB2.out.size)
    clear hb3 he2 HB2
    have z := one_list T
    have zs : (⟨#[49]⟩ ++ T : ByteArray).size ≤ 281474976710656 := by rw [← list_len, z, List.length_cons, list_len]; omega
    by_cases hneg : n < 0
    · obtain ⟨y1, y2⟩ := one_minus hneg
      rw [← HT.out, ← z] at y1 y2
      rcases q2 with q2 | q2
      all_goals
        clear z
        go_wp2_with fail
        refine (parse_any _ _ zs he3.2).mono ?_
        rintro e w4 ⟨rfl, hb4⟩
        have HB4 : Hid (Below w.heap.size w w4) := HB3.out.trans (hb4.mono HB3.out.size)
        clear hb4
        go_wp2
        go_ret
        exact ⟨rfl, HB4.out⟩
    · have g : decide (0 ≤ n) = true := by simp; omega
      rcases q2 with q2 | q2
      all_goals
        clear z
        go_wp2_with fail
        refine (parse_any _ _ zs he3.2).mono ?_
        rintro e w4 ⟨rfl, hb4⟩
        have HB4 : Hid (Below w.heap.size w w4) := HB3.out.trans (hb4.mono HB3.out.size)
        clear hb4
        go_wp2
        go_ret
        exact ⟨rfl, HB4.out⟩
end Go.Proofs.YthmoimilhbmagacDoor
