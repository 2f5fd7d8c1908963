import Derived.Test.YthchbcfecconbaaGreatDoorG15
import Derived.Test.YthchbcfecconbaaGreatDoorG10
import Derived.Test.YthchbcfecconbaaGreatDoorRows
import Derived.OpenShut
import Derived.WalkLawsBesides
import Derived.WalkSpells
import Derived.Lib.IndexBytes
import Derived.Lib.AtoiErrMem
import Derived.Lib.AppendIntMem
import Derived.Test.YthchbcfecconbaaGreatDoorG04
import Derived.Below
import Derived.Lib.SmallJoins
import Derived.Test.YthchbcfecconbaaGreatDoorG01
import Derived.Deep.QuietTactic
namespace Go.Proofs.YthchbcfecconbaaGreatDoor
open Go.ChangeShapes Go.WideShapes Go.ChangeAt Go.RowKit
theorem list_of (s : ByteArray) : s.toList = s.data.toList := ByteArray.toList_eq s
theorem list_len (s : ByteArray) : s.toList.length = s.size := by rw [list_of]; exact Array.length_toList
theorem list_get (s : ByteArray) (k : Nat) (h : k < s.size) : s.toList[k]? = some s[k] := by
  have h' : k < s.data.size := h
  rw [list_of, Array.getElem?_toList, Array.getElem?_eq_getElem h']; rfl
theorem list_cons (s : ByteArray) (h : 0 < s.size) : s.toList = s[0] :: s.toList.drop 1 := by
  have h0 := list_get s 0 h
  cases hl : s.toList with
  | nil => rw [hl] at h0; simp at h0
  | cons c r => rw [hl] at h0; simp at h0; rw [h0]; rfl
theorem list_tail (s : ByteArray) : (s.extract 1 s.size).toList = s.toList.drop 1 := by
  rw [list_of, list_of]
  exact Lib.extract_to_end s 1
theorem all_of (l : List UInt8) (h : ∀ k, k < l.length → ∀ c, l[k]? = some c → digB c = true) : l.all digB = true := by
  rw [List.all_eq_true]
  intro c hc
  obtain ⟨k, hk, rfl⟩ := List.getElem_of_mem hc
  exact h k hk _ (List.getElem?_eq_getElem hk)
def DigTo (t : ByteArray) (k : Nat) : Prop := ∀ j (h : j < t.size), j < k → 48 ≤ t[j].toNat ∧ t[j].toNat ≤ 57
theorem digTo_zero (t : ByteArray) : DigTo t 0 := fun _ _ h => absurd h (by omega)
theorem digTo_succ {t : ByteArray} {k : Nat} (h : DigTo t k) (hk : k < t.size) (h1 : 48 ≤ t[k].toNat) (h2 : t[k].toNat ≤ 57) : DigTo t (k + 1) := by
  intro j hj hjk
  by_cases e : j = k
  · subst e; exact ⟨h1, h2⟩
  · exact h j hj (by omega)
theorem digTo_all {t : ByteArray} (h : DigTo t t.size) : t.toList.all digB = true := by
  refine all_of _ fun k hk c hc => ?_
  rw [list_len] at hk
  rw [list_get t k hk] at hc
  cases hc
  exact (digB_iff _).2 (h k hk hk)
theorem not_all {t : ByteArray} {k : Nat} (hk : k < t.size) (h : t[k].toNat < 48 ∨ 57 < t[k].toNat) : t.toList.all digB = false := by
  rw [Bool.eq_false_iff]
  intro ha
  have := List.all_eq_true.1 ha t[k] (List.mem_of_getElem? (list_get t k hk))
  have := (digB_iff _).1 this
  omega
theorem form_nil {s : ByteArray} (h : s.size = 0) : numForm s.toList = false := by
  have : s.toList = [] := List.eq_nil_of_length_eq_zero (by rw [list_len]; exact h)
  rw [this]; rfl
theorem form_minus {s : ByteArray} (h : 0 < s.size) (h1 : s[0].toNat = 45) :
    (s.size = 1 → numForm s.toList = false) ∧ ∀ h2 : 0 < (s.extract 1 s.size).size, ((s.extract 1 s.size)[0].toNat = 48 → numForm s.toList = false ∧ (s.toList == [48]) = false) ∧ ((s.extract 1 s.size)[0].toNat ≠ 48 → numForm s.toList = (s.extract 1 s.size).toList.all digB) := by
  have e := list_cons s h
  rw [← list_tail] at e
  refine ⟨fun k => ?_, fun h2 => ?_⟩
  · have : (s.extract 1 s.size).toList = [] := List.eq_nil_of_length_eq_zero (by rw [list_tail, List.length_drop, list_len]; omega)
    rw [this] at e
    rw [e, numForm_cons, if_pos h1]
  · have e2 := list_cons _ h2
    generalize s.extract 1 s.size = t at *
    refine ⟨fun k => ⟨?_, ?_⟩, fun k => ?_⟩
    · rw [e, e2, numForm_cons, if_pos h1]
      simp only
      rw [if_pos k]
    · rw [e]
      simp only [List.cons_beq_cons, Bool.and_eq_false_iff]
      left
      rw [beq_eq_false_iff_ne]
      intro q
      rw [q] at h1
      exact absurd h1 (by decide)
    · rw [e, e2, numForm_cons, if_pos h1]
      simp only
      rw [if_neg k]
theorem form_plain {s : ByteArray} (h : 0 < s.size) (h1 : s[0].toNat ≠ 45) :
    (s[0].toNat = 48 → numForm s.toList = (s.toList == [48])) ∧ (s[0].toNat ≠ 48 → numForm s.toList = s.toList.all digB) := by
  have e := list_cons s h
  refine ⟨fun k => ?_, fun k => ?_⟩
  · rw [e, numForm_cons, if_neg h1, if_pos k]
    have : s[0] = 48 := UInt8.toNat_inj.1 k
    rw [this]
    cases s.toList.drop 1 <;> rfl
  · rw [e, numForm_cons, if_neg h1, if_neg k]
end Go.Proofs.YthchbcfecconbaaGreatDoor

namespace Go.Proofs.YthchbcfecconbaaGreatDoor
open Go.ChangeShapes Go.WideShapes Go.ChangeAt Go.RowKit
set_option maxHeartbeats 1000000 in
theorem isNum_minus (s : ByteArray) (w : World) (hs : s.size ≤ 281474976710656) (h : 0 < s.size) (h1 : s[0].toNat = 45) (h2 : 0 < (s.extract 1 s.size).size) (h3 : (s.extract 1 s.size)[0].toNat ≠ 48) :
    Calls Tryz.prog 119 #[.string s] w fun e w' => e = .returned (.bool (numForm s.toList)) ∧ w' = w := by
  have HF : Hid (_ = _) := ((form_minus h h1).2 h2).2 h3
  have a1 : s.toList.isEmpty = false := by rw [list_cons s h]; rfl
  have a2 : ((s[0].toNat : Int) == 45) = true := by simp; omega
  have hts : (s.extract 1 s.size).size ≤ 281474976710656 := by simp; omega
  have a3 : (s.extract 1 s.size).toList.isEmpty = false := by rw [list_cons _ h2]; rfl
  have a4 : (((s.extract 1 s.size)[0].toNat : Int) == 48) = false := by simp; omega
  have h2' : 0 < s.size - 1 := by simpa using h2
  go_enter Tryz.func119, Tryz.ntmps119
  go_wp2
  generalize (s.extract 1 s.size)[0].toNat = c0 at *
  clear h2 h2' h3 a4
  generalize s.extract 1 s.size = t at *
  go_loop [4] (fun i => ∃ k : Nat, k ≤ t.size ∧ i = .int .i64 k ∧ DigTo t k) (fun i => t.size - (intOf i).toNat)
  case atStart => exact ⟨0, Nat.zero_le _, rfl, digTo_zero _⟩
  case round =>
    obtain ⟨k, hk, rfl, hd⟩ := hrel
    have HD : Hid (DigTo t k) := hd
    clear hd
    by_cases hlt : k < t.size
    · by_cases c1 : t[k].toNat < 48
      · have b1 : decide ((t[k].toNat : Int) < 48) = true := by simp; omega
        have HN : Hid (_ = _) := not_all hlt (.inl c1)
        go_wp2
        go_ret
        exact ⟨retB (by rw [HF.out, HN.out]), rfl⟩
      · have b1 : decide ((t[k].toNat : Int) < 48) = false := by simp; omega
        by_cases c2 : 57 < t[k].toNat
        · have b2 : decide ((57 : Int) < (t[k].toNat : Int)) = true := by simp; omega
          have HN : Hid (_ = _) := not_all hlt (.inr c2)
          go_wp2
          go_ret
          exact ⟨retB (by rw [HF.out, HN.out]), rfl⟩
        · have b2 : decide ((57 : Int) < (t[k].toNat : Int)) = false := by simp; omega
          have HN : Hid (DigTo t (k + 1)) := digTo_succ HD.out hlt (by omega) (by omega)
          go_wp2
          go_round
          case rel => exact ⟨k + 1, by omega, by go_num, HN.out⟩
          case measure => simp [intOf]; omega
    · have e : k = t.size := by omega
      subst e
      have HN : Hid (_ = _) := digTo_all HD.out
      go_wp2
      go_ret
      exact ⟨retB (by rw [HF.out, HN.out]), rfl⟩
set_option maxHeartbeats 1000000 in
theorem isNum_plain (s : ByteArray) (w : World) (hs : s.size ≤ 281474976710656) (h : 0 < s.size) (h1 : s[0].toNat ≠ 45) (h3 : s[0].toNat ≠ 48) :
    Calls Tryz.prog 119 #[.string s] w fun e w' => e = .returned (.bool (numForm s.toList)) ∧ w' = w := by
  have HF : Hid (_ = _) := (form_plain h h1).2 h3
  have a1 : s.toList.isEmpty = false := by rw [list_cons s h]; rfl
  have a2 : ((s[0].toNat : Int) == 45) = false := by simp; omega
  have a4 : ((s[0].toNat : Int) == 48) = false := by simp; omega
  go_enter Tryz.func119, Tryz.ntmps119
  go_wp2
  go_loop [4] (fun i => ∃ k : Nat, k ≤ s.size ∧ i = .int .i64 k ∧ DigTo s k) (fun i => s.size - (intOf i).toNat)
  case atStart => exact ⟨0, Nat.zero_le _, rfl, digTo_zero _⟩
  case round =>
    obtain ⟨k, hk, rfl, hd⟩ := hrel
    have HD : Hid (DigTo s k) := hd
    clear hd
    by_cases hlt : k < s.size
    · by_cases c1 : s[k].toNat < 48
      · have b1 : decide ((s[k].toNat : Int) < 48) = true := by simp; omega
        have HN : Hid (_ = _) := not_all hlt (.inl c1)
        go_wp2
        go_ret
        exact ⟨retB (by rw [HF.out, HN.out]), rfl⟩
      · have b1 : decide ((s[k].toNat : Int) < 48) = false := by simp; omega
        by_cases c2 : 57 < s[k].toNat
        · have b2 : decide ((57 : Int) < (s[k].toNat : Int)) = true := by simp; omega
          have HN : Hid (_ = _) := not_all hlt (.inr c2)
          go_wp2
          go_ret
          exact ⟨retB (by rw [HF.out, HN.out]), rfl⟩
        · have b2 : decide ((57 : Int) < (s[k].toNat : Int)) = false := by simp; omega
          have HN : Hid (DigTo s (k + 1)) := digTo_succ HD.out hlt (by omega) (by omega)
          go_wp2
          go_round
          case rel => exact ⟨k + 1, by omega, by go_num, HN.out⟩
          case measure => simp [intOf]; omega
    · have e : k = s.size := by omega
      subst e
      have HN : Hid (_ = _) := digTo_all HD.out
      go_wp2
      go_ret
      exact ⟨retB (by rw [HF.out, HN.out]), rfl⟩
theorem isNum_any (s : ByteArray) (w : World) (hs : s.size ≤ 281474976710656) :
    Calls Tryz.prog 119 #[.string s] w fun e w' => e = .returned (.bool (numForm s.toList)) ∧ w' = w := by
  by_cases h : 0 < s.size
  · by_cases h1 : s[0].toNat = 45
    · by_cases h2 : 0 < (s.extract 1 s.size).size
      · by_cases h3 : (s.extract 1 s.size)[0].toNat = 48
        · obtain ⟨f1, f2⟩ := ((form_minus h h1).2 h2).1 h3
          rw [f1]
          have a1 : s.toList.isEmpty = false := by rw [list_cons s h]; rfl
          have a2 : ((s[0].toNat : Int) == 45) = true := by simp; omega
          have a3 : (s.extract 1 s.size).toList.isEmpty = false := by rw [list_cons _ h2]; rfl
          have a4 : (((s.extract 1 s.size)[0].toNat : Int) == 48) = true := by simp; omega
          have h2' : 0 < s.size - 1 := by simpa using h2
          go_enter Tryz.func119, Tryz.ntmps119
          go_wp2
          go_ret
          exact ⟨rfl, rfl⟩
        · exact isNum_minus s w hs h h1 h2 h3
      · have e1 : s.size = 1 := by simp at h2; omega
        rw [(form_minus h h1).1 e1]
        have a1 : s.toList.isEmpty = false := by rw [list_cons s h]; rfl
        have a2 : ((s[0].toNat : Int) == 45) = true := by simp; omega
        have a3 : (s.extract 1 s.size).toList.isEmpty = true := by
          have : (s.extract 1 s.size).toList = [] := List.eq_nil_of_length_eq_zero (by rw [list_tail, List.length_drop, list_len]; omega)
          rw [this]; rfl
        have E1 : Hid (s.size = 1) := e1
        clear e1 h2
        go_enter Tryz.func119, Tryz.ntmps119
        go_wp2
        go_ret
        exact ⟨rfl, rfl⟩
    · by_cases h3 : s[0].toNat = 48
      · rw [(form_plain h h1).1 h3]
        have a1 : s.toList.isEmpty = false := by rw [list_cons s h]; rfl
        have a2 : ((s[0].toNat : Int) == 45) = false := by simp; omega
        have a4 : ((s[0].toNat : Int) == 48) = true := by simp; omega
        go_enter Tryz.func119, Tryz.ntmps119
        go_wp2
        go_ret
        exact ⟨rfl, rfl⟩
      · exact isNum_plain s w hs h h1 h3
  · have h0 : s.size = 0 := by omega
    rw [form_nil h0]
    have e : s.toList = [] := List.eq_nil_of_length_eq_zero (by rw [list_len]; exact h0)
    have a1 : s.toList.isEmpty = true := by rw [e]; rfl
    clear h h0
    go_enter Tryz.func119, Tryz.ntmps119
    go_wp2
    go_ret
    exact ⟨rfl, rfl⟩
end Go.Proofs.YthchbcfecconbaaGreatDoor

namespace Go.Proofs.YthchbcfecconbaaGreatDoor
open Go.ChangeShapes Go.WideShapes Go.ChangeAt Go.RowKit
theorem prs_bad {l : List UInt8} (h : numForm l = false) : prsV l = 0 ∧ prsE l = 12 := by
  unfold prsV prsE; rw [if_neg (by simp [h]), if_neg (by simp [h])]; exact ⟨rfl, rfl⟩
theorem prs_ok {l : List UInt8} (h : numForm l = true) (h2 : natv 0 (digs l) ≤ lim l) : prsE l = 0 := by
  unfold prsE; rw [if_pos h, if_pos h2]
theorem prs_range {l : List UInt8} (h : numForm l = true) (h2 : ¬ natv 0 (digs l) ≤ lim l) : prsV l = 0 ∧ prsE l = 13 := by
  unfold prsV prsE; rw [if_neg (fun k => h2 k.2), if_pos h, if_neg h2]; exact ⟨rfl, rfl⟩
def ErrIs (w : World) : Prop := ∃ tp p, w.var? Tryz.prog "strconv.ErrRange" = some #[.iface tp p]
set_option maxHeartbeats 1000000 in
theorem parse_any (s : ByteArray) (w : World) (hs : s.size ≤ 281474976710656) (hv : ErrIs w) :
    Calls Tryz.prog 111 #[.string s] w fun e w' => e = .returned (.tuple #[.int .i64 (prsV s.toList), .int .i64 (prsE s.toList)]) ∧ Below w.heap.size w w' := by
  cases hf : numForm s.toList
  · rw [(prs_bad hf).1, (prs_bad hf).2]
    go_enter Tryz.func111, Tryz.ntmps111
    go_wp2_with (go_at_call 119; refine (isNum_any _ _ hs).mono ?_; rintro e w' ⟨rfl, rfl⟩)
    go_ret2
    exact ⟨rfl, Below.refl _ _⟩
  · have hp := parseInt_form hf
    by_cases hl : natv 0 (digs s.toList) ≤ lim s.toList
    · rw [if_pos hl, list_of] at hp
      rw [prs_ok hf hl]
      have HP : Hid (_ = _) := hp
      clear hp hl
      go_enter Tryz.func111, Tryz.ntmps111
      go_wp2_with (go_at_call 119; refine (isNum_any _ _ hs).mono ?_; rintro e w' ⟨rfl, rfl⟩)
      refine (Tryz.strconv_ParseInt_10_at64_ok s (by omega) _ HP.out _).mono ?_
      rintro e w1 ⟨rfl, hw⟩
      have hb : Below w'.heap.size w' w1 := by
        rcases hw with rfl | ⟨t, rfl⟩
        · exact Below.refl _ _
        · exact Lib.bytesWorld_below _ _ _
      clear hw
      go_wp2
      go_ret2
      exact ⟨by rw [list_of]; rfl, hb⟩
    · rw [if_neg hl, list_of] at hp
      rw [(prs_range hf hl).1, (prs_range hf hl).2]
      obtain ⟨tp, p, hv⟩ := hv
      have HP : Hid (_ = _) := hp
      have HV : Hid (_ = _) := hv
      clear hp hl hv
      go_enter Tryz.func111, Tryz.ntmps111
      go_wp2_with (go_at_call 119; refine (isNum_any _ _ hs).mono ?_; rintro e w' ⟨rfl, rfl⟩)
      refine (Tryz.strconv_ParseInt_10_at64_range_var s hs HP.out tp p _ HV.out).mono ?_
      rintro e w1 ⟨N, rfl, _, _, hb⟩
      go_wp2
      go_ret2
      exact ⟨rfl, hb⟩
end Go.Proofs.YthchbcfecconbaaGreatDoor

namespace Go.Proofs.YthchbcfecconbaaGreatDoor
open Go.RowKit
attribute [local go_sem] Oper.semAt_some run_store_nf run_store_f
theorem Keeps.ofBelow {w w' : World} (h : Below w.heap.size w w') : Keeps (fun _ => False) w w' := ⟨h.os, h.tape, h.output, h.size, fun k hk _ => h.block k hk⟩
structure Pc where
  t : ByteArray
  ln : Int
  col : Int
def Pc.cells (p : Pc) : List Value := [.string p.t, .int .i64 p.ln, .int .i64 p.col]
structure PT (w : World) : Prop where
  lt : LT w
  er : ErrIs w
  mx : ∃ m : Int, w.cell? ⟨3, 0, none⟩ = some (.int .i64 m)
theorem gER : Tryz.prog.globalNamed "strconv.ErrRange" = some 7 := by kernel_rfl
theorem errIs_keep {w w' : World} (h : ErrIs w) (k : Keeps (fun _ => False) w w') : ErrIs w' := by
  obtain ⟨tp, p, hv⟩ := h
  exact ⟨tp, p, Go.Joins.var_stays gER hv (k.below (Nat.le_refl _) (fun _ _ e => e)) (Nat.le_refl _)⟩
theorem PT.keep {w w' : World} (h : PT w) (k : Keeps (fun _ => False) w w') : PT w' := ⟨h.lt.keep k, errIs_keep h.er k, by obtain ⟨m, hm⟩ := h.mx; exact ⟨m, k.cell hm (fun e => e)⟩⟩
def tp (t : ByteArray) (c : UInt8) : ByteArray := ⟨(Lib.trimPrefix t.data.toList [c]).toArray⟩
theorem tp_size (t : ByteArray) (c : UInt8) : (tp t c).size ≤ t.size := by
  have := Lib.trimPrefix_le t.data.toList [c]
  show (Lib.trimPrefix t.data.toList [c]).toArray.size ≤ t.data.size
  simpa using this
def hp (t : ByteArray) (c : UInt8) : Bool := Lib.hasPrefix t.data.toList [c]
def regN (t : ByteArray) : Int := prsV (tp t 114).toList
def regB (t : ByteArray) : Bool := hp t 114 && (prsE (tp t 114).toList == 0) && rg (regN t)
theorem need_ok (w : World) (t : ByteArray) (ln col : Int) : Calls Tryz.prog 104 #[.agg #[.string t, .int .i64 ln, .int .i64 col], .bool true] w fun e w' => e = .returned (.tuple #[]) ∧ Keeps (fun _ => False) w w' := by
  go_enter Tryz.func104, Tryz.ntmps104
  go_wp2
  go_end0
  exact ⟨rfl, (Keeps.refl _ w).alloc _⟩
set_option maxHeartbeats 500000 in
theorem register_any {w : World} (t : ByteArray) (hs : t.size ≤ 4096) (hv : ErrIs w) : Calls Tryz.prog 109 #[.string t] w fun e w' => e = .returned (.tuple #[.int .i64 (regN t), .bool (regB t)]) ∧ Keeps (fun _ => False) w w' := by
  have hC : ∀ W, Calls Tryz.prog 110 #[.string t, .string ⟨#[114]⟩] W fun e w' => e = .returned (.tuple #[.string (tp t 114), .bool (hp t 114)]) ∧ w' = W := fun W => Tryz.strings_CutPrefix t ⟨#[114]⟩ W
  have hP := parse_any (tp t 114) w (by have := tp_size t 114; omega) hv
  have hR := fun W => isReg_any W (regN t)
  unfold regB
  have hN : Hid (regN t = prsV (tp t 114).toList) := rfl
  rw [← hN.out] at hP
  generalize regN t = n at *
  generalize rg n = g at *
  generalize prsE (tp t 114).toList = pe at *
  generalize tp t 114 = t1 at *
  generalize hp t 114 = h1 at *
  cases h1 <;> cases hpe : (pe == 0) <;> cases g <;>
  (go_enter Tryz.func109, Tryz.ntmps109
   go_wp2_with (first | (go_at_call 110; refine (hC _).mono ?_; rintro e w' ⟨rfl, rfl⟩) | (go_at_call 111; refine hP.mono ?_; rintro e w1 ⟨rfl, b1⟩) | (go_at_call 68; refine (hR _).mono ?_; rintro e w' ⟨rfl, rfl⟩))
   go_ret2
   exact ⟨rfl, .ofBelow b1⟩)
end Go.Proofs.YthchbcfecconbaaGreatDoor

namespace Go.Proofs.YthchbcfecconbaaGreatDoor
open Go.ChangeShapes Go.WideShapes Go.ChangeAt Go.RowKit
set_option maxHeartbeats 1000000 in
theorem opNamed_any (s : ByteArray) (w : World) (hc : Hid (∀ i, i < 13 → w.cell? ⟨1, i, none⟩ = some (.string (opT i)))) :
    Calls Tryz.prog 99 #[.string s] w fun e w' => e = .returned (.tuple #[.int .i64 ((look opT s 1 12 : Nat) : Int), .int .i64 (lookE 10 (look opT s 1 12))]) ∧ w' = w := by
  go_enter Tryz.func99, Tryz.ntmps99
  go_wp2
  go_loop [4] (fun i => ∃ k : Nat, 1 ≤ k ∧ k ≤ 13 ∧ i = .int .i64 k ∧ look opT s 1 12 = look opT s k (13 - k)) (fun i => 13 - (intOf i).toNat)
  case atStart => exact ⟨1, by omega, by omega, rfl, rfl⟩
  case round =>
    obtain ⟨k, k1, k2, rfl, hl⟩ := hrel
    by_cases hlt : k < 13
    · have c1 := hc.out k hlt
      have e1 : 13 - k = (12 - k) + 1 := by omega
      rw [e1] at hl
      have HL : Hid (_ = _) := hl
      clear hl e1
      cases hm : ((opT k).toList == s.toList)
      · have HN : Hid (look opT s 1 12 = look opT s (k + 1) (13 - (k + 1))) := by
          show _ = _
          rw [HL.out, look_miss _ _ _ _ hm, show 13 - (k + 1) = 12 - k by omega]
        go_wp2
        go_round
        case rel => exact ⟨k + 1, by omega, by omega, by go_num, HN.out⟩
        case measure => simp [intOf]; omega
      · have HN : Hid (look opT s 1 12 = k) := by
          show _ = _
          rw [HL.out, look_hit _ _ _ _ hm]
        go_wp2
        go_ret2
        refine ⟨?_, rfl⟩
        rw [HN.out, show lookE 10 k = 0 from if_neg (by omega)]
        rfl
    · have e1 : k = 13 := by omega
      subst e1
      have HN : Hid (look opT s 1 12 = 0) := hl
      clear hl
      go_wp2
      go_ret2
      refine ⟨?_, rfl⟩
      rw [HN.out]
      rfl
set_option maxHeartbeats 1000000 in
theorem relNamed_any (s : ByteArray) (w : World) (hc : Hid (∀ i, i < 7 → w.cell? ⟨2, i, none⟩ = some (.string (relT i)))) :
    Calls Tryz.prog 112 #[.string s] w fun e w' => e = .returned (.tuple #[.int .i64 ((look relT s 1 6 : Nat) : Int), .int .i64 (lookE 11 (look relT s 1 6))]) ∧ w' = w := by
  go_enter Tryz.func112, Tryz.ntmps112
  go_wp2
  go_loop [4] (fun i => ∃ k : Nat, 1 ≤ k ∧ k ≤ 7 ∧ i = .int .i64 k ∧ look relT s 1 6 = look relT s k (7 - k)) (fun i => 7 - (intOf i).toNat)
  case atStart => exact ⟨1, by omega, by omega, rfl, rfl⟩
  case round =>
    obtain ⟨k, k1, k2, rfl, hl⟩ := hrel
    by_cases hlt : k < 7
    · have c1 := hc.out k hlt
      have e1 : 7 - k = (6 - k) + 1 := by omega
      rw [e1] at hl
      have HL : Hid (_ = _) := hl
      clear hl e1
      cases hm : ((relT k).toList == s.toList)
      · have HN : Hid (look relT s 1 6 = look relT s (k + 1) (7 - (k + 1))) := by
          show _ = _
          rw [HL.out, look_miss _ _ _ _ hm, show 7 - (k + 1) = 6 - k by omega]
        go_wp2
        go_round
        case rel => exact ⟨k + 1, by omega, by omega, by go_num, HN.out⟩
        case measure => simp [intOf]; omega
      · have HN : Hid (look relT s 1 6 = k) := by
          show _ = _
          rw [HL.out, look_hit _ _ _ _ hm]
        go_wp2
        go_ret2
        refine ⟨?_, rfl⟩
        rw [HN.out, show lookE 11 k = 0 from if_neg (by omega)]
        rfl
    · have e1 : k = 7 := by omega
      subst e1
      have HN : Hid (look relT s 1 6 = 0) := hl
      clear hl
      go_wp2
      go_ret2
      refine ⟨?_, rfl⟩
      rw [HN.out]
      rfl
end Go.Proofs.YthchbcfecconbaaGreatDoor

namespace Go.Proofs.YthchbcfecconbaaGreatDoor
open Go.RowKit
attribute [local go_sem] Oper.semAt_some run_store_nf run_store_f
theorem made1 (w : World) (l : List Value) (t : TypeId) (o : Obj) (hl : 0 < l.length) : CL ((w.alloc (.cells l.toArray t)).alloc o) w.heap.size l := (CL.made w l t).alloc hl o
theorem made2 (w : World) (l : List Value) (t : TypeId) (o : Obj) : CL ((w.alloc o).alloc (.cells l.toArray t)) (w.heap.size + 1) l := by
  have h := CL.made (w.alloc o) l t
  simpa using h
theorem ks2 (w : World) (o o' : Obj) : Keeps (fun _ => False) w ((w.alloc o).alloc o') := ((Keeps.refl _ w).alloc o).alloc o'
def src (t : ByteArray) : Option (Bool × Int) := if regB t = true then some (true, regN t) else if prsE t.toList = 0 then some (false, prsV t.toList) else none
def objO (t : ByteArray) : Option (Bool × Int) := if hp t 64 = true then src (tp t 64) else none
set_option maxHeartbeats 500000 in
set_option maxRecDepth 100000 in
theorem source_ok {w : World} (pt : ByteArray) (ln col : Int) (t : ByteArray) (hs : t.size ≤ 4096) (hv : ErrIs w) {r : Bool} {n : Int} (h : src t = some (r, n)) : Calls Tryz.prog 102 #[.agg #[.string pt, .int .i64 ln, .int .i64 col], .string t] w fun e w' => e = .returned (.agg #[.bool r, .int .i64 n]) ∧ Keeps (fun _ => False) w w' := by
  have hR := fun W (k : Keeps (fun _ => False) w W) => register_any (w := W) t hs (errIs_keep hv k)
  have hP := fun W (k : Keeps (fun _ => False) w W) => parse_any t W (by omega) (errIs_keep hv k)
  have hN := fun W => need_ok W pt ln col
  have m1 := made1 w [.string pt, .int .i64 ln, .int .i64 col] 124 (.cells #[.bool false, .int .i64 0] 64) (by show 0 < 3; decide)
  have m2 := made2 w [.bool false, .int .i64 0] 64 (.cells #[.string pt, .int .i64 ln, .int .i64 col] 124)
  have k2 := ks2 w (.cells #[.string pt, .int .i64 ln, .int .i64 col] 124) (.cells #[.bool false, .int .i64 0] 64)
  unfold src at h
  by_cases hb : regB t = true
  · rw [if_pos hb] at h
    rw [hb] at hR
    obtain ⟨rfl, rfl⟩ : r = true ∧ n = regN t := by simpa [eq_comm] using h
    clear h hP
    generalize regN t = n at *
    go_enter Tryz.func102, Tryz.ntmps102
    go_wp2_with (go_at_call 109; refine (hR _ k2).mono ?_; rintro e w1 ⟨rfl, k1⟩; have c2 := m2.keep (by show 0 < 2; decide) k1 (fun e => e); have x0 := c2.c 0 _ rfl; have x1 := c2.c 1 _ rfl; have z0 := c2.z 0 (by show 0 < 2; decide); have z1 := c2.z 1 (by show 1 < 2; decide))
    refine bodyPost_ret (v := .agg #[.bool true, .int .i64 n]) (by rw [results_cell1 rfl]; go_simp) rfl ⟨rfl, ?_⟩
    exact ((k2.trans k1).setCell (fun h => absurd h (by show ¬ (w.heap.size + 1 < w.heap.size); omega)) _).setCell (fun h => absurd h (by show ¬ (w.heap.size + 1 < w.heap.size); omega)) _
  · rw [if_neg hb] at h
    have hb : regB t = false := by simpa using hb
    rw [hb] at hR
    by_cases he : prsE t.toList = 0
    · rw [if_pos he] at h
      rw [he] at hP
      obtain ⟨rfl, rfl⟩ : r = false ∧ n = prsV t.toList := by simpa [eq_comm] using h
      clear h
      generalize regN t = n' at *
      generalize prsV t.toList = n at *
      go_enter Tryz.func102, Tryz.ntmps102
      go_wp2_with (first | (go_at_call 109; refine (hR _ k2).mono ?_; rintro e w1 ⟨rfl, k1⟩; have K1 := k2.trans k1; have C2 := m2.keep (by show 0 < 2; decide) k1 (fun e => e); have C1 := m1.keep (by show 0 < 3; decide) k1 (fun e => e); clear hR k1 m1 m2 k2) | (go_at_call 111; refine (hP _ K1).mono ?_; rintro e w3 ⟨rfl, b3⟩; have k3 := Keeps.ofBelow b3; clear b3; have K3 := K1.trans k3; have D2 := C2.keep (by show 0 < 2; decide) k3 (fun e => e); have D1 := C1.keep (by show 0 < 3; decide) k3 (fun e => e); have y0 := D1.c 0 _ rfl; have y1 := D1.c 1 _ rfl; have y2 := D1.c 2 _ rfl; clear hP K1 C1 C2 k3) | (go_at_call 104; refine (hN _).mono ?_; rintro e w4 ⟨rfl, k4⟩; have K4 := K3.trans k4; have c2 := D2.keep (by show 0 < 2; decide) k4 (fun e => e); have x0 := c2.c 0 _ rfl; have x1 := c2.c 1 _ rfl; have z0 := c2.z 0 (by show 0 < 2; decide); have z1 := c2.z 1 (by show 1 < 2; decide); clear hN K3 D1 D2 k4))
      refine bodyPost_ret (v := .agg #[.bool false, .int .i64 n]) (by rw [results_cell1 rfl]; go_simp) rfl ⟨rfl, ?_⟩
      exact (K4.setCell (fun h => absurd h (by show ¬ (w.heap.size + 1 < w.heap.size); omega)) _).setCell (fun h => absurd h (by show ¬ (w.heap.size + 1 < w.heap.size); omega)) _
    · rw [if_neg he] at h; cases h
set_option maxHeartbeats 500000 in
set_option maxRecDepth 100000 in
theorem object_ok {w : World} (t : ByteArray) (ln col : Int) (hs : t.size ≤ 4096) (hv : ErrIs w) {r : Bool} {n : Int} (h : objO t = some (r, n)) : Calls Tryz.prog 101 #[.agg #[.string t, .int .i64 ln, .int .i64 col]] w fun e w' => e = .returned (.agg #[.bool r, .int .i64 n]) ∧ Keeps (fun _ => False) w w' := by
  unfold objO at h
  by_cases hb : hp t 64 = true
  · rw [if_pos hb] at h
    have hC : ∀ W, Calls Tryz.prog 110 #[.string t, .string ⟨#[64]⟩] W fun e w' => e = .returned (.tuple #[.string (tp t 64), .bool (hp t 64)]) ∧ w' = W := fun W => Tryz.strings_CutPrefix t ⟨#[64]⟩ W
    rw [hb] at hC
    have hS := fun W (k : Keeps (fun _ => False) w W) => source_ok (w := W) t ln col (tp t 64) (by have := tp_size t 64; omega) (errIs_keep hv k) h
    have hN := fun W => need_ok W t ln col
    have m1 := made1 w [.string t, .int .i64 ln, .int .i64 col] 124 (.cells #[.bool false, .int .i64 0] 64) (by show 0 < 3; decide)
    have m2 := made2 w [.bool false, .int .i64 0] 64 (.cells #[.string t, .int .i64 ln, .int .i64 col] 124)
    have k2 := ks2 w (.cells #[.string t, .int .i64 ln, .int .i64 col] 124) (.cells #[.bool false, .int .i64 0] 64)
    clear h
    generalize tp t 64 = t1 at *
    go_enter Tryz.func101, Tryz.ntmps101
    go_wp2_with (first | (go_at_call 110; refine (hC _).mono ?_; rintro e w' ⟨rfl, rfl⟩; clear hC) | (go_at_call 104; refine (hN _).mono ?_; rintro e w4 ⟨rfl, k4⟩; have K4 := k2.trans k4; have D1 := m1.keep (by show 0 < 3; decide) k4 (fun e => e); have D2 := m2.keep (by show 0 < 2; decide) k4 (fun e => e); have y0 := D1.c 0 _ rfl; have y1 := D1.c 1 _ rfl; have y2 := D1.c 2 _ rfl; clear hN m1 m2 k4 k2) | (go_at_call 102; refine (hS _ K4).mono ?_; rintro e w5 ⟨rfl, k5⟩; have K5 := K4.trans k5; have c2 := D2.keep (by show 0 < 2; decide) k5 (fun e => e); have x0 := c2.c 0 _ rfl; have x1 := c2.c 1 _ rfl; have z0 := c2.z 0 (by show 0 < 2; decide); have z1 := c2.z 1 (by show 1 < 2; decide); clear hS K4 D1 D2 k5))
    refine bodyPost_ret (v := .agg #[.bool r, .int .i64 n]) (by rw [results_cell1 rfl]; go_simp) rfl ⟨rfl, ?_⟩
    exact (K5.setCell (fun h => absurd h (by show ¬ (w.heap.size + 1 < w.heap.size); omega)) _).setCell (fun h => absurd h (by show ¬ (w.heap.size + 1 < w.heap.size); omega)) _
  · rw [if_neg hb] at h; cases h
set_option maxHeartbeats 500000 in
set_option maxRecDepth 100000 in
theorem regm_ok {w : World} (t : ByteArray) (ln col : Int) (hs : t.size ≤ 4096) (hv : ErrIs w) (hb : regB t = true) : Calls Tryz.prog 100 #[.agg #[.string t, .int .i64 ln, .int .i64 col]] w fun e w' => e = .returned (.int .i64 (regN t)) ∧ Keeps (fun _ => False) w w' := by
  have hR := fun W (k : Keeps (fun _ => False) w W) => register_any (w := W) t hs (errIs_keep hv k)
  rw [hb] at hR
  have hN := fun W => need_ok W t ln col
  have m1 := CL.made w [.string t, .int .i64 ln, .int .i64 col] 124
  have k2 : Keeps (fun _ => False) w (w.alloc (.cells #[.string t, .int .i64 ln, .int .i64 col] 124)) := (Keeps.refl _ w).alloc _
  generalize regN t = n at *
  go_enter Tryz.func100, Tryz.ntmps100
  go_wp2_with (first | (go_at_call 109; refine (hR _ k2).mono ?_; rintro e w1 ⟨rfl, k1⟩; have K1 := k2.trans k1; have C1 := m1.keep (by show 0 < 3; decide) k1 (fun e => e); have y0 := C1.c 0 _ rfl; have y1 := C1.c 1 _ rfl; have y2 := C1.c 2 _ rfl; clear hR k1 m1 k2) | (go_at_call 104; refine (hN _).mono ?_; rintro e w4 ⟨rfl, k4⟩; have K4 := K1.trans k4; clear hN k4 K1))
  go_ret
  exact ⟨rfl, K4⟩
end Go.Proofs.YthchbcfecconbaaGreatDoor

namespace Go.Proofs.YthchbcfecconbaaGreatDoor
open Go.RowKit
attribute [local go_sem] Oper.semAt_some run_store_nf run_store_f
def shT (i : Nat) : ByteArray := ⟨(([#[], #[103, 101, 116], #[116, 97, 107, 101], #[112, 117, 116], #[100, 114, 111, 112], #[108, 101, 116], #[], #[105, 102], #[103, 111, 116, 111], #[113, 117, 105, 116], #[100, 111, 110, 101]] : List (Array UInt8)).getD i #[])⟩
def NT (w : World) : Prop := ∀ c, 1 ≤ c → c ≤ 10 → w.cell? ⟨0, c * 2, none⟩ = some (.string (shT c))
theorem NT.keep {w w' : World} (h : NT w) (k : Keeps (fun _ => False) w w') : NT w' := fun c h1 h2 => k.cell (h c h1 h2) (fun e => e)
def nmd (t : ByteArray) : Option Ins := if look opT t 1 12 ≠ 0 then some { ins0 with code := 6, op := (look opT t 1 12 : Nat) } else if look shT t 1 10 ≠ 0 then some { ins0 with code := (look shT t 1 10 : Nat) } else none
set_option maxHeartbeats 500000 in
set_option maxRecDepth 100000 in
theorem named_ok {w : World} (t : ByteArray) (ln col : Int) (hL : LT w) (hNT : NT w) {q : Ins} (h : nmd t = some q) : Calls Tryz.prog 74 #[.agg #[.string t, .int .i64 ln, .int .i64 col]] w fun e w' => e = .returned (.agg q.cells.toArray) ∧ Keeps (fun _ => False) w w' := by
  obtain ⟨W2, hW2⟩ : ∃ W2, W2 = (w.alloc (.cells #[.string t, .int .i64 ln, .int .i64 col] 124)).alloc (.cells #[.int .i64 0, .int .i64 0, .bool false, .int .i64 0, .bool false, .int .i64 0, .bool false, .int .i64 0, .int .i64 0, .int .i64 0, .int .i64 0] 69) := ⟨_, rfl⟩
  have m1 : CL W2 w.heap.size [.string t, .int .i64 ln, .int .i64 col] := by rw [hW2]; exact made1 w [.string t, .int .i64 ln, .int .i64 col] 124 _ (by show 0 < 3; decide)
  have m2 : CL W2 (w.heap.size + 1) ins0.cells := by rw [hW2]; exact made2 w ins0.cells 69 _
  have k2 : Keeps (fun _ => False) w W2 := by rw [hW2]; exact ks2 w _ _
  have hO := opNamed_any t W2 (hL.keep k2).ot
  have HW : Hid (_ = _) := hW2
  clear hW2
  have y0 := m1.c 0 _ rfl
  have hTW := hNT.keep k2
  unfold nmd at h
  by_cases hb : look opT t 1 12 ≠ 0
  · rw [if_pos hb] at h
    generalize look opT t 1 12 = o at *
    cases h
    have he : lookE 10 o = 0 := by unfold lookE; rw [if_neg hb]
    rw [he] at hO
    have hA := all_oneCell_ins { ins0 with code := 6, op := (o : Int) }
    go_enter Tryz.func74, Tryz.ntmps74
    go_wp2_with (first | (go_at_call 99; rw [← HW.out]; refine hO.mono ?_; rintro e w1 ⟨rfl, e1⟩; subst w1) | (refine wpList_store_cl rfl 69 _ _ rfl (w.heap.size + 1) 0 11 _ rfl rfl rfl m2 (by show 11 ≤ 11; decide) iIn hA ?_; intro w5 hc5 k5 hsz5; clear hsz5))
    have hc6 : CL w5 (w.heap.size + 1) { ins0 with code := 6, op := (o : Int) : Ins }.cells := hc5
    refine bodyPost_ret (v := .agg { ins0 with code := 6, op := (o : Int) : Ins }.cells.toArray) (by rw [results_cell1 rfl]; simp [asAddr, run_ins hc6]) rfl ⟨rfl, ?_⟩
    exact k2.trans' k5 (fun _ _ e => e) (fun i hi e => by have e : i = w.heap.size + 1 := e; omega)
  · rw [if_neg hb] at h
    have hb0 : look opT t 1 12 = 0 := by omega
    rw [hb0] at hO
    clear hb hb0
    have he : lookE 10 0 = 10 := rfl
    rw [he] at hO
    by_cases hs : look shT t 1 10 ≠ 0
    · rw [if_pos hs] at h
      cases h
      go_enter Tryz.func74, Tryz.ntmps74
      go_wp2_with (first | (go_at_call 99; rw [← HW.out]; refine hO.mono ?_; rintro e w1 ⟨rfl, e1⟩; subst w1))
      go_loopw [5] (fun iv Wr => ∃ k : Nat, iv = .int .i64 (k : Int) ∧ 1 ≤ k ∧ k ≤ 10 ∧ look shT t 1 10 = look shT t k (11 - k) ∧ Keeps (fun _ => False) W2 Wr) (fun iv _ => 11 - (intOf iv).toNat)
      case atStart => exact ⟨1, rfl, by omega, by omega, rfl, Keeps.refl _ _⟩
      case round =>
        obtain ⟨k, rfl, hk1, hk2, hl, kr⟩ := hrel
        have hlt : decide ((k : Int) ≤ 10) = true := by simp; omega
        have hk0 : (0 : Int) ≤ (k : Int) := by omega
        have hk11 : (k : Int) < 11 := by omega
        have hcn := hTW k hk1 hk2
        have e1 : 11 - k = (10 - k) + 1 := by omega
        rw [e1] at hl
        have HL : Hid (_ = _) := hl
        clear hl e1
        have hc1 := kr.cell y0 (fun e => e)
        have hc2 := kr.cell hcn (fun e => e)
        cases hm : ((shT k).toList == t.toList)
        · have HN : Hid (look shT t 1 10 = look shT t (k + 1) (11 - (k + 1))) := by
            show _ = _
            rw [HL.out, look_miss _ _ _ _ hm, show 11 - (k + 1) = 10 - k by omega]
          have hkk : k + 1 ≤ 10 := by
            rcases Nat.lt_or_ge k 10 with h | h
            · exact h
            · exfalso
              have e10 : k = 10 := by omega
              have := HN.out
              rw [e10] at this
              exact hs this
          go_wp2_with fail
          go_quiet (fail)
          go_wp2_with fail
          go_roundw
          case rel => exact ⟨k + 1, by go_num, by omega, hkk, HN.out, kr.drewN nq⟩
          case measure => simp [intOf]; omega
        · have HN : Hid (look shT t 1 10 = k) := by
            show _ = _
            rw [HL.out, look_hit _ _ _ _ hm]
          have hgt : decide ((10 : Int) < (k : Int)) = false := by simp; omega
          have hA := all_oneCell_ins { ins0 with code := (k : Int) }
          have kq := fun j => (k2.trans kr).drewN j
          have mq := fun j => m2.keep (by show 0 < 11; decide) (kr.drewN j) (fun e => e)
          go_wp2_with fail
          go_quiet (fail)
          have mn := mq nq
          go_wp2_with (refine wpList_store_cl rfl 69 _ _ rfl (w.heap.size + 1) 0 11 _ rfl rfl rfl mn (by show 11 ≤ 11; decide) iIn hA ?_; intro w5 hc5 k5 hsz5; clear hsz5)
          have hc6 : CL w5 (w.heap.size + 1) { ins0 with code := (k : Int) : Ins }.cells := hc5
          refine bodyPost_ret (v := .agg { ins0 with code := (k : Int) : Ins }.cells.toArray) (by rw [results_cell1 rfl]; simp [asAddr, run_ins hc6]) rfl ⟨by rw [HN.out], ?_⟩
          exact (kq nq).trans' k5 (fun _ _ e => e) (fun i hi e => by have e : i = w.heap.size + 1 := e; omega)
    · rw [if_neg hs] at h; cases h
end Go.Proofs.YthchbcfecconbaaGreatDoor

namespace Go.Proofs.YthchbcfecconbaaGreatDoor
open Go.RowKit
attribute [local go_sem] Oper.semAt_some run_store_nf run_store_f
set_option maxHeartbeats 500000 in
set_option maxRecDepth 100000 in
theorem relation_ok {w : World} (t : ByteArray) (ln col : Int) (hL : LT w) (hb : look relT t 1 6 ≠ 0) : Calls Tryz.prog 103 #[.agg #[.string t, .int .i64 ln, .int .i64 col]] w fun e w' => e = .returned (.int .i64 ((look relT t 1 6 : Nat) : Int)) ∧ Keeps (fun _ => False) w w' := by
  have m1 := CL.made w [.string t, .int .i64 ln, .int .i64 col] 124
  have k2 : Keeps (fun _ => False) w (w.alloc (.cells #[.string t, .int .i64 ln, .int .i64 col] 124)) := (Keeps.refl _ w).alloc _
  have hR := relNamed_any t (w.alloc (.cells #[.string t, .int .i64 ln, .int .i64 col] 124)) (hL.keep k2).rt
  have hN := fun W => need_ok W t ln col
  generalize look relT t 1 6 = o at *
  have he : ∀ x : Int, lookE x o = 0 := fun x => by unfold lookE; rw [if_neg hb]
  rw [he] at hR
  clear he
  go_enter Tryz.func103, Tryz.ntmps103
  go_wp2_with (first | (go_at_call 112; refine hR.mono ?_; rintro e w1 ⟨rfl, e1⟩; subst w1) | (go_at_call 104; refine (hN _).mono ?_; rintro e w4 ⟨rfl, k4⟩; have K4 := k2.trans k4; clear hN k4))
  go_ret
  exact ⟨rfl, K4⟩
def fil (u : Ins) (s : Int) (t : ByteArray) : Option Ins :=
  if s = 1 then (if regB t = true then some { u with dst := regN t } else none)
  else if s = 2 then (objO t).map (fun x => { u with oR := x.1, oN := x.2 })
  else if s = 3 then (src t).map (fun x => { u with xR := x.1, xN := x.2 })
  else if s = 4 then (src t).map (fun x => { u with yR := x.1, yN := x.2 })
  else if s = 5 then (if look relT t 1 6 ≠ 0 then some { u with rel := (look relT t 1 6 : Nat) } else none)
  else none
set_option maxHeartbeats 500000 in
set_option maxRecDepth 100000 in
theorem fill_1 {w : World} {r : Value} {ib : Nat} {u : Ins} (t : ByteArray) (ln col : Int) (hs : t.size ≤ 4096) (hT : PT w) (hU : CL w ib u.cells) (hb : regB t = true) : Calls Tryz.prog 76 #[r, .pointer (some ⟨ib, 0, none⟩), .int .i64 1, .agg #[.string t, .int .i64 ln, .int .i64 col]] w fun e w' => e = .returned (.tuple #[]) ∧ CL w' ib { u with dst := regN t }.cells ∧ Keeps (fun k => k = ib) w w' := by
  have m1 := CL.made w [.string t, .int .i64 ln, .int .i64 col] 124
  have k2 : Keeps (fun _ => False) w (w.alloc (.cells #[.string t, .int .i64 ln, .int .i64 col] 124)) := (Keeps.refl _ w).alloc _
  have hC := regm_ok (w := (w.alloc (.cells #[.string t, .int .i64 ln, .int .i64 col] 124))) t ln col hs (errIs_keep hT.er k2) hb
  have hU2 := hU.keep (by show 0 < 11; decide) k2 (fun e => e)
  generalize regN t = n at *
  go_enter Tryz.func76, Tryz.ntmps76
  go_wp2_with (go_at_call 100; refine hC.mono ?_; rintro e w4 ⟨rfl, k4⟩; have K2 := k2.trans k4; have c4 := hU2.keep (by show 0 < 11; decide) k4 (fun e => e); have x1 := c4.c 1 _ rfl; have z1 := c4.z 1 (by show 1 < 11; decide); clear hC k4)
  go_end0
  exact ⟨rfl, (c4.set (o := 1) (by show 1 < 11; decide) _), ((K2.mono (fun _ _ e => e.elim) : Keeps (fun k => k = ib) w w4).setA 1 _)⟩
set_option maxHeartbeats 500000 in
set_option maxRecDepth 100000 in
theorem fill_2 {w : World} {r : Value} {ib : Nat} {u : Ins} (t : ByteArray) (ln col : Int) (hs : t.size ≤ 4096) (hT : PT w) (hU : CL w ib u.cells) {r1 : Bool} {n1 : Int} (hb : objO t = some (r1, n1)) : Calls Tryz.prog 76 #[r, .pointer (some ⟨ib, 0, none⟩), .int .i64 2, .agg #[.string t, .int .i64 ln, .int .i64 col]] w fun e w' => e = .returned (.tuple #[]) ∧ CL w' ib { u with oR := r1, oN := n1 }.cells ∧ Keeps (fun k => k = ib) w w' := by
  have m1 := CL.made w [.string t, .int .i64 ln, .int .i64 col] 124
  have k2 : Keeps (fun _ => False) w (w.alloc (.cells #[.string t, .int .i64 ln, .int .i64 col] 124)) := (Keeps.refl _ w).alloc _
  have hC := object_ok (w := (w.alloc (.cells #[.string t, .int .i64 ln, .int .i64 col] 124))) t ln col hs (errIs_keep hT.er k2) hb
  have hU2 := hU.keep (by show 0 < 11; decide) k2 (fun e => e)
  
  go_enter Tryz.func76, Tryz.ntmps76
  go_wp2_with (go_at_call 101; refine hC.mono ?_; rintro e w4 ⟨rfl, k4⟩; have K2 := k2.trans k4; have c4 := hU2.keep (by show 0 < 11; decide) k4 (fun e => e); have x2 := c4.c 2 _ rfl; have z2 := c4.z 2 (by show 2 < 11; decide); have x3 := c4.c 3 _ rfl; have z3 := c4.z 3 (by show 3 < 11; decide); clear hC k4)
  go_end0
  exact ⟨rfl, ((c4.set (o := 2) (by show 2 < 11; decide) _).set (o := 3) (by simp only [List.length_set]; show 3 < 11; decide) _), (((K2.mono (fun _ _ e => e.elim) : Keeps (fun k => k = ib) w w4).setA 2 _).setA 3 _)⟩
set_option maxHeartbeats 500000 in
set_option maxRecDepth 100000 in
theorem fill_3 {w : World} {r : Value} {ib : Nat} {u : Ins} (t : ByteArray) (ln col : Int) (hs : t.size ≤ 4096) (hT : PT w) (hU : CL w ib u.cells) {r1 : Bool} {n1 : Int} (hb : src t = some (r1, n1)) : Calls Tryz.prog 76 #[r, .pointer (some ⟨ib, 0, none⟩), .int .i64 3, .agg #[.string t, .int .i64 ln, .int .i64 col]] w fun e w' => e = .returned (.tuple #[]) ∧ CL w' ib { u with xR := r1, xN := n1 }.cells ∧ Keeps (fun k => k = ib) w w' := by
  have m1 := CL.made w [.string t, .int .i64 ln, .int .i64 col] 124
  have k2 : Keeps (fun _ => False) w (w.alloc (.cells #[.string t, .int .i64 ln, .int .i64 col] 124)) := (Keeps.refl _ w).alloc _
  have hC := source_ok (w := (w.alloc (.cells #[.string t, .int .i64 ln, .int .i64 col] 124))) t ln col t hs (errIs_keep hT.er k2) hb
  have hU2 := hU.keep (by show 0 < 11; decide) k2 (fun e => e)
  
  go_enter Tryz.func76, Tryz.ntmps76
  go_wp2_with (go_at_call 102; refine hC.mono ?_; rintro e w4 ⟨rfl, k4⟩; have K2 := k2.trans k4; have c4 := hU2.keep (by show 0 < 11; decide) k4 (fun e => e); have x4 := c4.c 4 _ rfl; have z4 := c4.z 4 (by show 4 < 11; decide); have x5 := c4.c 5 _ rfl; have z5 := c4.z 5 (by show 5 < 11; decide); clear hC k4)
  go_end0
  exact ⟨rfl, ((c4.set (o := 4) (by show 4 < 11; decide) _).set (o := 5) (by simp only [List.length_set]; show 5 < 11; decide) _), (((K2.mono (fun _ _ e => e.elim) : Keeps (fun k => k = ib) w w4).setA 4 _).setA 5 _)⟩
set_option maxHeartbeats 500000 in
set_option maxRecDepth 100000 in
theorem fill_4 {w : World} {r : Value} {ib : Nat} {u : Ins} (t : ByteArray) (ln col : Int) (hs : t.size ≤ 4096) (hT : PT w) (hU : CL w ib u.cells) {r1 : Bool} {n1 : Int} (hb : src t = some (r1, n1)) : Calls Tryz.prog 76 #[r, .pointer (some ⟨ib, 0, none⟩), .int .i64 4, .agg #[.string t, .int .i64 ln, .int .i64 col]] w fun e w' => e = .returned (.tuple #[]) ∧ CL w' ib { u with yR := r1, yN := n1 }.cells ∧ Keeps (fun k => k = ib) w w' := by
  have m1 := CL.made w [.string t, .int .i64 ln, .int .i64 col] 124
  have k2 : Keeps (fun _ => False) w (w.alloc (.cells #[.string t, .int .i64 ln, .int .i64 col] 124)) := (Keeps.refl _ w).alloc _
  have hC := source_ok (w := (w.alloc (.cells #[.string t, .int .i64 ln, .int .i64 col] 124))) t ln col t hs (errIs_keep hT.er k2) hb
  have hU2 := hU.keep (by show 0 < 11; decide) k2 (fun e => e)
  
  go_enter Tryz.func76, Tryz.ntmps76
  go_wp2_with (go_at_call 102; refine hC.mono ?_; rintro e w4 ⟨rfl, k4⟩; have K2 := k2.trans k4; have c4 := hU2.keep (by show 0 < 11; decide) k4 (fun e => e); have x6 := c4.c 6 _ rfl; have z6 := c4.z 6 (by show 6 < 11; decide); have x7 := c4.c 7 _ rfl; have z7 := c4.z 7 (by show 7 < 11; decide); clear hC k4)
  go_end0
  exact ⟨rfl, ((c4.set (o := 6) (by show 6 < 11; decide) _).set (o := 7) (by simp only [List.length_set]; show 7 < 11; decide) _), (((K2.mono (fun _ _ e => e.elim) : Keeps (fun k => k = ib) w w4).setA 6 _).setA 7 _)⟩
set_option maxHeartbeats 500000 in
set_option maxRecDepth 100000 in
theorem fill_5 {w : World} {r : Value} {ib : Nat} {u : Ins} (t : ByteArray) (ln col : Int) (_hs : t.size ≤ 4096) (hT : PT w) (hU : CL w ib u.cells) (hb : look relT t 1 6 ≠ 0) : Calls Tryz.prog 76 #[r, .pointer (some ⟨ib, 0, none⟩), .int .i64 5, .agg #[.string t, .int .i64 ln, .int .i64 col]] w fun e w' => e = .returned (.tuple #[]) ∧ CL w' ib { u with rel := ((look relT t 1 6 : Nat) : Int) }.cells ∧ Keeps (fun k => k = ib) w w' := by
  have m1 := CL.made w [.string t, .int .i64 ln, .int .i64 col] 124
  have k2 : Keeps (fun _ => False) w (w.alloc (.cells #[.string t, .int .i64 ln, .int .i64 col] 124)) := (Keeps.refl _ w).alloc _
  have hC := relation_ok (w := (w.alloc (.cells #[.string t, .int .i64 ln, .int .i64 col] 124))) t ln col (hT.lt.keep k2) hb
  have hU2 := hU.keep (by show 0 < 11; decide) k2 (fun e => e)
  generalize ((look relT t 1 6 : Nat) : Int) = n at *
  go_enter Tryz.func76, Tryz.ntmps76
  go_wp2_with (go_at_call 103; refine hC.mono ?_; rintro e w4 ⟨rfl, k4⟩; have K2 := k2.trans k4; have c4 := hU2.keep (by show 0 < 11; decide) k4 (fun e => e); have x9 := c4.c 9 _ rfl; have z9 := c4.z 9 (by show 9 < 11; decide); clear hC k4)
  go_end0
  exact ⟨rfl, (c4.set (o := 9) (by show 9 < 11; decide) _), ((K2.mono (fun _ _ e => e.elim) : Keeps (fun k => k = ib) w w4).setA 9 _)⟩
theorem fill_ok {w : World} {r : Value} {ib : Nat} {u u' : Ins} {s : Int} (t : ByteArray) (ln col : Int) (hs : t.size ≤ 4096) (hT : PT w) (hU : CL w ib u.cells) (h : fil u s t = some u') : Calls Tryz.prog 76 #[r, .pointer (some ⟨ib, 0, none⟩), .int .i64 s, .agg #[.string t, .int .i64 ln, .int .i64 col]] w fun e w' => e = .returned (.tuple #[]) ∧ CL w' ib u'.cells ∧ Keeps (fun k => k = ib) w w' := by
  unfold fil at h
  split at h
  · rename_i e; subst e
    split at h
    · rename_i hb; cases h; exact fill_1 t ln col hs hT hU hb
    · cases h
  · split at h
    · rename_i e; subst e
      cases ho : objO t with
      | none => rw [ho] at h; cases h
      | some x => rw [ho] at h; cases h; exact fill_2 t ln col hs hT hU ho
    · split at h
      · rename_i e; subst e
        cases ho : src t with
        | none => rw [ho] at h; cases h
        | some x => rw [ho] at h; cases h; exact fill_3 t ln col hs hT hU ho
      · split at h
        · rename_i e; subst e
          cases ho : src t with
          | none => rw [ho] at h; cases h
          | some x => rw [ho] at h; cases h; exact fill_4 t ln col hs hT hU ho
        · split at h
          · rename_i e; subst e
            split at h
            · rename_i hb; cases h; exact fill_5 t ln col hs hT hU hb
            · cases h
          · cases h
end Go.Proofs.YthchbcfecconbaaGreatDoor

