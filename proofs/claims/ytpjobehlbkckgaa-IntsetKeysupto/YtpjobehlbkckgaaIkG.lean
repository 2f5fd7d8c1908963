import Derived.Test.YtpjobehlbkckgaaIkF
import Derived.Deep.QuietTactic
namespace Go.Proofs.Ytpjobehlbkckgaa
open Go.RowKit Go.Deep
attribute [local go_sem] Oper.semAt_some run_store_nf run_store_f
set_option maxHeartbeats 2000000 in
set_option maxRecDepth 1000000 in
theorem keys_t3 {w1 : World} {R : Ending → World → Prop} {a aw ag : Option Addr} {n cap g cr m k cw cg : Nat} {vs : List V3} {r : List Int} {x1 x2 x3 x4 x7 x8 x9 x10 x11 x13 x14 x15 x16 x17 x18 x19 x20 x21 x22 x23 x24 x25 x26 x27 x28 x29 x30 x31 x32 x33 x34 x35 x36 x37 x38 x39 x40 x41 x42 x43 x44 x45 x46 x47 x48 x49 x50 x51 x52 x53 x54 x55 x56 x57 x58 x59 x60 x61 x62 x63 x64 x65 x66 x67 x68 x69 x70 x71 x72 x73 x74 x75 x76 x77 x78 x79 x80 x81 x82 x83 x84 x85 x86 x87 x88 x89 x90 x91 x92 x93 x94 x95 x96 x97 x98 x99 x100 x101 x102 x103 x104 x105 x106 x107 x108 x109 x110 x111 x112 x113 x114 x115 x116 x117 x118 x119 x120 x121 x122 x123 x124 x125 x126 x127 x128 x129 x130 x131 x132 x133 x134 x135 x136 x137 x138 x139 x140 x141 x142 x143 x144 x145 x146 x147 x148 x149 x150 x151 x152 x153 x154 x155 x156 x157 x158 x159 x160 x161 x162 x163 : Value} (hRo : VL w1 (some ⟨g, 0, none⟩) (vs ++ [⟨77, 0, false⟩, ⟨78, 0, false⟩])) (hn : vs.length = n) (hb : n ≤ 1048576) (hm : m = n + 2) (hW : NUM w1 aw r) (hr : r.length = k) (hk : k ≤ 1048578) (hG : NUM w1 ag r)
    (hR : ∀ w', Keeps (fun _ => False) w1 w' → R (.returned (.bool true)) w') :
    (keysT3 Try.f3).wp Try.prog (bodyPost Try.prog Try.f3 R) { tmps := #[.slice a n cap, x1, x2, x3, x4, .slice (some ⟨g, 0, none⟩) m cr, .slice aw k cw, x7, x8, x9, x10, x11, .slice ag k cg, x13, x14, x15, x16, x17, x18, x19, x20, x21, x22, x23, x24, x25, x26, x27, x28, x29, x30, x31, x32, x33, x34, x35, x36, x37, x38, x39, x40, x41, x42, x43, x44, x45, x46, x47, x48, x49, x50, x51, x52, x53, x54, x55, x56, x57, x58, x59, x60, x61, x62, x63, x64, x65, x66, x67, x68, x69, x70, x71, x72, x73, x74, x75, x76, x77, x78, x79, x80, x81, x82, x83, x84, x85, x86, x87, x88, x89, x90, x91, x92, x93, x94, x95, x96, x97, x98, x99, x100, x101, x102, x103, x104, x105, x106, x107, x108, x109, x110, x111, x112, x113, x114, x115, x116, x117, x118, x119, x120, x121, x122, x123, x124, x125, x126, x127, x128, x129, x130, x131, x132, x133, x134, x135, x136, x137, x138, x139, x140, x141, x142, x143, x144, x145, x146, x147, x148, x149, x150, x151, x152, x153, x154, x155, x156, x157, x158, x159, x160, x161, x162, x163], defers := [] } w1 := by
  have HR : Hid (∀ w', Keeps (fun _ => False) w1 w' → R (.returned (.bool true)) w') := hR
  clear hR
  have hnn : ((k : Int) != (k : Int)) = false := by simp
  have hnn2 : (k != k) = false := by simp
  dsimp only [keysT3, Try.f3]
  refine wp_seq_k (fun KK hKK => ?_)
  have hKH : Hid _ := hKK
  clear hKK
  go_wp2_with fail
  refine hKH.out _ _ ?_
  clear hKH KK
  refine wp_seq_k (fun KK hKK => ?_)
  have hKH : Hid _ := hKK
  clear hKK
  go_wp2_with fail
  go_loopw [15] (fun iv Wr => ∃ j : Nat, iv = .int .i64 (j : Int) ∧ j ≤ k ∧ Keeps (fun _ => False) w1 Wr) (fun iv _ => k - (intOf iv).toNat)
  case atStart => exact ⟨0, rfl, Nat.zero_le _, Keeps.refl _ w1⟩
  case round =>
    obtain ⟨j, rfl, hj, kr⟩ := hrel
    by_cases hlt : j < k
    · have hltI : decide ((j : Int) < (k : Int)) = true := by simp; omega
      have hltJ : (j : Int) < (k : Int) := by omega
      have hj0 : (0 : Int) ≤ (j : Int) := by omega
      have hw1 : IntKind.i64.wrap ((j : Int) + 1) = (j : Int) + 1 := by rw [IntKind.wrap_i64]; omega
      obtain ⟨x, hx⟩ : ∃ x, r[j]? = some x := ⟨_, List.getElem?_eq_getElem (by omega)⟩
      obtain ⟨ba, oa, rfl, c1⟩ := hW j x hx
      obtain ⟨bb, ob, rfl, c2⟩ := hG j x hx
      have d1 := kr.cell c1 (fun e => e)
      have d2 := kr.cell c2 (fun e => e)
      have hxx : (x != x) = false := by simp
      clear c1 c2 hx hW hG hRo
      go_wp2_with fail
      go_quiet (fail)
      go_wp2_with fail
      go_roundw
      case rel => exact ⟨j + 1, by go_num, by omega, kr.drewN _⟩
      case measure => simp [intOf]; omega
    · have hltI : decide ((j : Int) < (k : Int)) = false := by simp; omega
      go_wp2_with fail
      refine hKH.out _ _ ?_
      exact keys_t4 (hRo.keep kr) hn hb (by first | exact hm | rfl) (fun w' kw => HR.out _ (kr.trans kw))
end Go.Proofs.Ytpjobehlbkckgaa
