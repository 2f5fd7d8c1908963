import Derived.Test.YtclednbclgkdaaaDoorPjK
import Derived.Test.YtclednbclgkdaaaDoorLgP
import Derived.Deep.QuietTactic
namespace Go.Proofs.YtclednbclgkdaaaDoor
open Go.RowKit Go.Deep Go.ChangeShapes Go.WideShapes Go.ChangeAt
attribute [local go_sem] Oper.semAt_some run_store_nf run_store_f
theorem icl_set1 : ∀ (l : List Ins) (p : Nat) (v : Int), p < l.length → icl (l.set p { l.getD p ins0 with dst := v }) = (icl l).set (p * 11 + 1) (.int .i64 v)
  | [], p, v, h => absurd h (Nat.not_lt_zero _)
  | q :: l, 0, v, h => by
    obtain ⟨cd, dst, oR, oN, xR, xN, yR, yN, op, rel, to⟩ := q
    rfl
  | q :: l, p + 1, v, h => by
    have i := icl_set1 l p v (by simpa using h)
    have hl : q.cells.length = 11 := rfl
    rw [List.set_cons_succ, icl_cons, icl_cons]
    have e : (q :: l).getD (p + 1) ins0 = l.getD p ins0 := rfl
    rw [e, i, show (p + 1) * 11 + 1 = q.cells.length + (p * 11 + 1) by rw [hl]; omega, List.set_append_right _ _ (by omega), Nat.add_sub_cancel_left]
/-- An instruction that the law has written. -/
def chI (i : Nat) (q : Ins) : Ins := { q with dst := IntKind.i64.wrap (IntKind.i64.wrap (q.dst + 1) + (i : Int)), to := -7 }
def chg : Nat → List Ins → List Ins
  | 0, l => l
  | k + 1, l => ((chg k l).set k { (chg k l).getD k ins0 with dst := IntKind.i64.wrap (IntKind.i64.wrap (((chg k l).getD k ins0).dst + 1) + (k : Int)) }).set k { ((chg k l).set k { (chg k l).getD k ins0 with dst := IntKind.i64.wrap (IntKind.i64.wrap (((chg k l).getD k ins0).dst + 1) + (k : Int)) }).getD k ins0 with to := -7 }
theorem chg_len (l : List Ins) : ∀ k, (chg k l).length = l.length
  | 0 => rfl
  | k + 1 => by unfold chg; rw [List.length_set, List.length_set, chg_len l k]
theorem getD_set_same {l : List Ins} {k : Nat} (h : k < l.length) (q : Ins) : (l.set k q).getD k ins0 = q := by
  rw [List.getD_eq_getElem?_getD, List.getElem?_set, if_pos rfl, if_pos h]; rfl
theorem getD_set_other {l : List Ins} {k i : Nat} (h : k ≠ i) (q : Ins) : (l.set k q).getD i ins0 = l.getD i ins0 := by
  rw [List.getD_eq_getElem?_getD, List.getElem?_set, if_neg h, ← List.getD_eq_getElem?_getD]
theorem chg_ge (l : List Ins) : ∀ k i, k ≤ i → (chg k l).getD i ins0 = l.getD i ins0
  | 0, i, _ => rfl
  | k + 1, i, h => by
    unfold chg
    rw [getD_set_other (by omega), getD_set_other (by omega), chg_ge l k i (by omega)]
theorem chg_lt (l : List Ins) : ∀ k i, i < k → k ≤ l.length → (chg k l).getD i ins0 = chI i (l.getD i ins0)
  | 0, i, h, _ => absurd h (Nat.not_lt_zero _)
  | k + 1, i, h, hk => by
    by_cases e : i = k
    · subst e
      have hl : i < (chg i l).length := by rw [chg_len]; omega
      unfold chg
      rw [getD_set_same (by rw [List.length_set]; exact hl), getD_set_same hl, chg_ge l i i (Nat.le_refl _)]
      rfl
    · unfold chg
      rw [getD_set_other (by omega), getD_set_other (by omega)]
      exact chg_lt l k i (by omega) (by omega)
def frT1 (f : Func) : Code := match f.body with | some (.seq _ (.seq _ (.seq _ (.seq _ (.seq _ (.seq _ (.seq _ t))))))) => t | _ => .skip
def frT2 (f : Func) : Code := match f.body with | some (.seq _ (.seq _ (.seq _ (.seq _ (.seq _ (.seq _ (.seq _ (.seq _ (.seq _ (.seq _ (.seq _ (.seq _ (.seq _ t))))))))))))) => t | _ => .skip
set_option maxHeartbeats 1000000 in
set_option maxRecDepth 1000000 in
theorem fresh_t2 {w : World} {P : Ending → World → Prop} {aw am : Option Addr} {n m cw cm : Nat} {l : List Ins} {q77 : Ins} {x0 x1 x2 x3 x4 x5 x6 x8 x9 x10 x11 x13 x14 x15 x16 x17 x18 x19 x20 x21 x22 x23 x24 x25 x26 x27 x28 x29 x30 x31 x32 x33 x34 x35 x36 x37 x38 x39 x40 x41 x42 x43 x44 x45 x46 x47 x48 x49 x50 x51 x52 x53 x54 x55 x56 x57 x58 x59 x60 x61 x62 x63 x64 x65 x66 x67 x68 x69 x70 x71 x72 x73 x74 x75 x76 x77 x78 x79 x80 x81 x82 x83 x84 x85 x86 x87 x88 x89 x90 x91 x92 x93 x94 x95 x96 x97 x98 x99 x100 x101 x102 x103 x104 x105 x106 x107 x108 x109 x110 x111 x112 x113 x114 x115 x116 x117 x118 x119 x120 x121 x122 x123 x124 x125 x126 x127 x128 x129 x130 x131 x132 x133 x134 x135 x136 x137 x138 x139 x140 x141 x142 x143 x144 x145 x146 x147 x148 x149 x150 x151 x152 x153 x154 x155 x156 x157 x158 x159 x160 x161 : Value} (hW : ISL w aw l) (hn : l.length = n) (hM : ISL w am (chg n l ++ [q77])) (hm : m = n + 1) (hb : n ≤ 64)
    (hP : ∀ w', Keeps (fun _ => False) w w' → P (.returned (.bool true)) w') :
    (frT2 Tryd.f4).wp Tryd.prog (bodyPost Tryd.prog Tryd.f4 P) { tmps := #[x0, x1, x2, x3, x4, x5, x6, .slice aw n cw, x8, x9, x10, x11, .slice am m cm, x13, x14, x15, x16, x17, x18, x19, x20, x21, x22, x23, x24, x25, x26, x27, x28, x29, x30, x31, x32, x33, x34, x35, x36, x37, x38, x39, x40, x41, x42, x43, x44, x45, x46, x47, x48, x49, x50, x51, x52, x53, x54, x55, x56, x57, x58, x59, x60, x61, x62, x63, x64, x65, x66, x67, x68, x69, x70, x71, x72, x73, x74, x75, x76, x77, x78, x79, x80, x81, x82, x83, x84, x85, x86, x87, x88, x89, x90, x91, x92, x93, x94, x95, x96, x97, x98, x99, x100, x101, x102, x103, x104, x105, x106, x107, x108, x109, x110, x111, x112, x113, x114, x115, x116, x117, x118, x119, x120, x121, x122, x123, x124, x125, x126, x127, x128, x129, x130, x131, x132, x133, x134, x135, x136, x137, x138, x139, x140, x141, x142, x143, x144, x145, x146, x147, x148, x149, x150, x151, x152, x153, x154, x155, x156, x157, x158, x159, x160, x161], defers := [] } w := by
  have HP : Hid (∀ w', Keeps (fun _ => False) w w' → P (.returned (.bool true)) w') := hP
  have HM : Hid (m = n + 1) := hm
  have HB : Hid (n ≤ 64) := hb
  clear hP hm hb
  dsimp only [frT2, Tryd.f4]
  go_wp2_with fail
  go_loopw [17] (fun iv Wr => ∃ k : Nat, iv = .int .i64 (k : Int) ∧ k ≤ n ∧ Keeps (fun _ => False) w Wr) (fun iv _ => n - (intOf iv).toNat)
  case atStart => exact ⟨0, rfl, Nat.zero_le _, Keeps.refl _ w⟩
  case round =>
    obtain ⟨k, rfl, hk, kr⟩ := hrel
    by_cases hlt : k < n
    · have hltI : decide ((k : Int) < (n : Int)) = true := by simp; omega
      have hltJ : (k : Int) < (n : Int) := by omega
      have hltM : (k : Int) < (m : Int) := by have := HM.out; omega
      have hk0 : (0 : Int) ≤ (k : Int) := by omega
      have hwk : IntKind.i64.wrap ((k : Int) + 1) = (k : Int) + 1 := by have := HB.out; rw [IntKind.wrap_i64]; omega
      obtain ⟨wb, wo, rfl, hwc⟩ := hW k (by omega)
      obtain ⟨mb, mo, rfl, hmc⟩ := hM k (by rw [List.length_append, chg_len]; simp; omega)
      have e1 : (chg n l ++ [q77]).getD k ins0 = chI k (l.getD k ins0) := by
        rw [List.getD_eq_getElem?_getD, List.getElem?_append_left (by rw [chg_len]; omega), ← List.getD_eq_getElem?_getD]
        exact chg_lt l n k hlt (by omega)
      rw [e1] at hmc
      generalize l.getD k ins0 = q at *
      have c1 := kr.cell (hwc 1 _ rfl) (fun e => e)
      have d1 := kr.cell (hmc 1 _ rfl) (fun e => e)
      have d10 := kr.cell (hmc 10 _ rfl) (fun e => e)
      obtain ⟨cd, dst, oR, oN, xR, xN, yR, yN, op, rel, to⟩ := q
      simp only [chI] at c1 d1 d10
      have hDD : (IntKind.i64.wrap (IntKind.i64.wrap (dst + 1) + (k : Int)) != IntKind.i64.wrap (IntKind.i64.wrap (dst + 1) + (k : Int))) = false := by simp
      clear hW hM hwc hmc e1
      go_wp2_with fail
      go_quiet (fail)
      go_wp2_with fail
      go_roundw
      case rel => exact ⟨k + 1, by go_num, by omega, kr.drewN _⟩
      case measure => simp [intOf]; omega
    · have hltI : decide ((k : Int) < (n : Int)) = false := by simp; omega
      clear hW hM
      go_wp2_with fail
      exact HP.out _ kr
end Go.Proofs.YtclednbclgkdaaaDoor
