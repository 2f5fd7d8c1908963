import Derived.Test.YtehblpbefkopbaaDoorXaV
import Derived.Test.YtehblpbefkopbaaDoorXaR
namespace Go.Proofs.YtehblpbefkopbaaDoor
open Go.RowKit Go.ChangeShapes Go.WideShapes Go.ChangeAt Go.Deep
attribute [local go_sem] Oper.semAt_some run_store_nf run_store_f
abbrev stl (L : List Bs) : List Value := L.map fun x => .string (bs x)
set_option maxHeartbeats 800000 in
theorem sindex_any {W : World} {B : Nat → Prop} {p : Option Addr} {n c : Nat} {L : List Bs} (h : OwnP W B 9 1 (.slice p n c) L.length (stl L)) (hn : L.length ≤ 1000) (v : Bs) : Calls Tryd.prog 69 #[.slice p n c, .string (bs v)] W fun e w' => (∃ i : Int, e = .returned (.int .i64 i) ∧ -1 ≤ i ∧ i ≤ 1000 ∧ decide (0 ≤ i) = L.contains v) ∧ w' = W := by
  obtain ⟨a, cap, e, hc, -, -⟩ := own_slice h.1
  injection e with e1 e2 e3
  subst e1 e2 e3
  go_enter Tryd.func69, Tryd.ntmps69
  go_wp2_with fail
  go_loopw [8] (fun iv Wr => ∃ k : Nat, iv = .int .i64 (k : Int) ∧ k ≤ L.length ∧ (L.drop k).contains v = L.contains v ∧ W = Wr) (fun iv _ => L.length + 1 - (intOf iv).toNat)
  case atStart => exact ⟨0, rfl, by omega, rfl, rfl⟩
  case round =>
    obtain ⟨k, rfl, hk1, hk2, rfl⟩ := hrel
    by_cases hk : k < L.length
    · have hd : decide ((k : Int) < (L.length : Int)) = true := decide_eq_true (by omega)
      have hd2 : decide (k < L.length) = true := decide_eq_true hk
      have hk0 : (0 : Int) ≤ (k : Int) := by omega
      have hkL : (k : Int) < (L.length : Int) := by omega
      have hst : L.drop k = L[k] :: L.drop (k + 1) := List.drop_eq_getElem_cons hk
      rw [hst, List.contains_cons] at hk2
      obtain ⟨g, rfl, hg⟩ := hc k (.string (bs L[k])) (by rw [List.getElem?_map, List.getElem?_eq_getElem hk]; rfl)
      have hL := eqL v L[k]
      generalize L[k] = x at *
      have hm : (k : Int) + 1 ≤ 9223372036854775807 := by omega
      clear hst
      cases hp : (v == x)
      · rw [hp] at hL
        rw [hp, Bool.false_or] at hk2
        have HT : Hid (_ = _) := hk2
        clear hk2 hp
        go_wp2_with fail
        go_roundw
        case rel => exact ⟨k + 1, by go_num, by omega, HT.out, trivial⟩
        case measure => simp [intOf]; omega
      · rw [hp] at hL
        rw [hp, Bool.true_or] at hk2
        have HT : Hid (_ = _) := hk2
        clear hk2 hp
        go_wp2_with fail
        go_ret
        exact ⟨⟨(k : Int), rfl, by omega, by omega, by rw [← HT.out]; exact decide_eq_true (by omega)⟩, rfl⟩
    · obtain rfl : k = L.length := by omega
      have hd : decide ((L.length : Int) < (L.length : Int)) = false := decide_eq_false (by omega)
      have hd2 : decide (L.length < L.length) = false := decide_eq_false (by omega)
      have HT : Hid (false = L.contains v) := by
        rw [List.drop_length] at hk2
        exact hk2
      clear hk2
      go_wp2_with fail
      go_ret
      exact ⟨⟨-1, rfl, by omega, by omega, by rw [← HT.out]; rfl⟩, rfl⟩
set_option maxHeartbeats 400000 in
theorem scontains_any {W : World} {B : Nat → Prop} {p : Option Addr} {n c : Nat} {L : List Bs} (h : OwnP W B 9 1 (.slice p n c) L.length (stl L)) (hn : L.length ≤ 1000) (v : Bs) : Calls Tryd.prog 61 #[.slice p n c, .string (bs v)] W fun e w' => e = .returned (.bool (L.contains v)) ∧ w' = W := by
  have hI := sindex_any h hn v
  generalize L.contains v = q at *
  generalize bs v = V at *
  go_enter Tryd.func61, Tryd.ntmps61
  go_wp2_with (go_at_call 69; refine hI.mono ?_; rintro e w' ⟨⟨i, rfl, hi1, hi2, hi3⟩, rfl⟩)
  go_ret
  exact ⟨rfl, rfl⟩
/-- What a memo tells of a list of expressions. -/
def GoE (W : World) (P : Nat → Prop) (wr : Bool) (ns : List Bs) (b n d m : Nat) : Prop := ∃ (ps : List Tr) (c : Nat) (xs : List Value), OwnP W P 32 4 (.slice (some ⟨b, 0, none⟩) n c) n xs ∧ ps.length = n ∧ TL W P 32 ps xs ∧ mzL ps = (d, m) ∧ (wrL ps = true → wr = true) ∧ ∀ ns', Ext ns ns' → nmL ps ns' = ns'
/-- What a memo tells of a list of statements. -/
def GoS (W : World) (P : Nat → Prop) (wr : Bool) (ns : List Bs) (b n d m : Nat) : Prop := ∃ (ps : List St) (c : Nat) (xs : List Value), OwnP W P 34 12 (.slice (some ⟨b, 0, none⟩) n c) n xs ∧ ps.length = n ∧ SL W P 32 34 ps xs ∧ mzSL ps = (d, m) ∧ (wrSL ps = true → wr = true) ∧ ∀ ns', Ext ns ns' → nmSL ps ns' = ns'
/-- The survey in memory: trees lie below B, its own blocks from there on. -/
structure SV (W : World) (B v me ms : Nat) (wr : Bool) (ns : List Bs) (p : Option Addr) (c : Nat) : Prop where
  cl : CL W v [.bool wr, .slice p ns.length c, .map (some me), .map (some ms)]
  nm : OwnP W (fun g => B ≤ g) 9 1 (.slice p ns.length c) ns.length (stl ns)
  ee : MMap W me (GoE W (fun g => g < B) wr ns)
  ss : MMap W ms (GoS W (fun g => g < B) wr ns)
  g : SG W
  bv : B ≤ v
  be : B ≤ me
  bm : B ≤ ms
  ne : me ≠ ms
  nd : ∀ g, (Value.slice p ns.length c).ownBlock = some g → g ≠ v ∧ g ≠ me ∧ g ≠ ms
  l : ns.length ≤ 9
  lo : 6 ≤ B
end Go.Proofs.YtehblpbefkopbaaDoor
