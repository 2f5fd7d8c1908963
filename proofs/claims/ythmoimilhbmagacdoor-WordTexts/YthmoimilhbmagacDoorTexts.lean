import Derived.Test.YthmoimilhbmagacDoorRefParse
import Derived.Test.YthmoimilhbmagacDoorRefParseM
import Derived.Test.YthmoimilhbmagacDoorRefFormat
namespace Go.Proofs.YthmoimilhbmagacDoor
open Go.ChangeShapes Go.WideShapes Go.ChangeAt Go.RowKit

theorem refParse_any (s : ByteArray) (w : World) (hs : s.size ≤ 281474976710656) :
    Calls Tryd.prog 8 #[.string s] w fun e w' => e = .returned (.tuple #[.int .i64 (prsV s.toList), .int .i64 (prsE s.toList)]) ∧ w' = w := by
  by_cases h : 0 < s.size
  · by_cases h1 : s[0].toNat = 45
    · by_cases h2 : 0 < (s.extract 1 s.size).size
      · by_cases h3 : (s.extract 1 s.size)[0].toNat = 48
        · obtain ⟨f1, _⟩ := ((form_minus h h1).2 h2).1 h3
          rw [(prs_bad f1).1, (prs_bad f1).2]
          have a0 : decide ((0 : Int) < (s.size : Int)) = true := by simp; omega
          have a2 : ((s[0].toNat : Int) == 45) = true := by simp; omega
          have a3 : (s.extract 1 s.size).toList.isEmpty = false := by rw [list_cons _ h2]; rfl
          have a4 : (((s.extract 1 s.size)[0].toNat : Int) == 48) = true := by simp; omega
          have h2' : 0 < s.size - 1 := by simpa using h2
          go_enter Tryd.func8, Tryd.ntmps8
          go_wp2
          go_ret2
          exact ⟨rfl, rfl⟩
        · exact refParse_minus s w hs h h1 h2 h3
      · have e1 : s.size = 1 := by simp at h2; omega
        have f1 := (form_minus h h1).1 e1
        rw [(prs_bad f1).1, (prs_bad f1).2]
        have a0 : decide ((0 : Int) < (s.size : Int)) = true := by simp; omega
        have a2 : ((s[0].toNat : Int) == 45) = true := by simp; omega
        have a3 : (s.extract 1 s.size).toList.isEmpty = true := by
          have : (s.extract 1 s.size).toList = [] := List.eq_nil_of_length_eq_zero (by rw [list_tail, List.length_drop, list_len]; omega)
          rw [this]; rfl
        clear e1 h2
        go_enter Tryd.func8, Tryd.ntmps8
        go_wp2
        go_ret2
        exact ⟨rfl, rfl⟩
    · by_cases h3 : s[0].toNat = 48
      · by_cases h4 : s.size = 1
        · exact refParse_plain s w hs h h1 (.inr ⟨h3, h4⟩)
        · have f1 := form_zeros h h3 (by omega)
          rw [(prs_bad f1).1, (prs_bad f1).2]
          have a0 : decide ((0 : Int) < (s.size : Int)) = true := by simp; omega
          have a1 : s.toList.isEmpty = false := by rw [list_cons s h]; rfl
          have a2 : ((s[0].toNat : Int) == 45) = false := by simp; omega
          have a4 : ((s[0].toNat : Int) == 48) = true := by simp; omega
          have a5 : decide ((1 : Int) < (s.size : Int)) = true := by simp; omega
          go_enter Tryd.func8, Tryd.ntmps8
          go_wp2
          go_ret2
          exact ⟨rfl, rfl⟩
      · exact refParse_plain s w hs h h1 (.inl h3)
  · have h0 : s.size = 0 := by omega
    have f1 := form_nil h0
    rw [(prs_bad f1).1, (prs_bad f1).2]
    have e : s.toList = [] := List.eq_nil_of_length_eq_zero (by rw [list_len]; exact h0)
    have es : s = ⟨#[]⟩ := bytes_inj (by rw [← list_of, e])
    subst es
    clear h h0 f1 e hs
    go_enter Tryd.func8, Tryd.ntmps8
    go_wp2
    go_ret2
    exact ⟨rfl, rfl⟩

theorem itoa_forty : Lib.itoa (-40) = [45, 52, 48] := by
  rw [itoa_neg' (by decide), show (-40 : Int).natAbs = 40 from rfl, dec_big (by decide), show 40 / 10 = 4 from rfl, dec_small (by decide)]; rfl
set_option maxHeartbeats 1000000 in
theorem texts_walk (n : Int) (s : ByteArray) (hn : In64 n) (hs : s.size ≤ 281474976710656) (w : World) (he : Env w) :
    Calls Tryd.prog 4 #[.int .i64 n, .string s] w fun e w' => e = .returned (.bool true) ∧ Below w.heap.size w w' := by
  have s1 : (prsV s.toList != prsV s.toList) = false := by simp
  have s2 : (prsE s.toList != prsE s.toList) = false := by simp
  have i40 : In64 (-40) := by unfold In64; omega
  go_enter Tryd.func4, Tryd.ntmps4
  go_wp2_with fail
  refine (parse_any s _ hs he.2).mono ?_
  rintro e w1 ⟨rfl, hb1⟩
  have he1 := he.step hb1
  have HB : Hid (Below w.heap.size w w1) := hb1
  clear hb1
  go_wp2_with fail
  refine (refParse_any s _ hs).mono ?_
  rintro e w2 ⟨rfl, hw2⟩
  rw [hw2]
  go_wp2_with fail
  refine (format_T n hn _ he1).mono ?_
  rintro e w3 ⟨T, rfl, hT, _, _, hb3⟩
  have he3 := he1.step hb3
  have HB3 : Hid (Below w.heap.size w w3) := HB.out.trans (hb3.mono HB.out.size)
  have HT : Hid (_ = _) := hT
  clear hb3 HB hT
  go_wp2_with fail
  refine (refFormat_any n hn _).mono ?_
  rintro e w4 ⟨T2, rfl, hT2, hb4⟩
  have he4 := he3.step hb4
  have HB4 : Hid (Below w.heap.size w w4) := HB3.out.trans (hb4.mono HB3.out.size)
  have g1 : (T.toList == T2.toList) = true := by rw [HT.out, hT2]; simp
  clear hb4 hT2 HB3
  go_wp2_with fail
  refine (format_T (-40) i40 _ he4).mono ?_
  rintro e w5 ⟨T3, rfl, hT3, _, _, hb5⟩
  have HB5 : Hid (Below w.heap.size w w5) := HB4.out.trans (hb5.mono HB4.out.size)
  have g2 : (T3.toList == [45, 52, 48]) = true := by rw [hT3, itoa_forty]; rfl
  clear hb5 hT3
  go_wp2
  go_ret
  exact ⟨rfl, HB5.out⟩
end Go.Proofs.YthmoimilhbmagacDoor
