import Derived.Test.YtpjobehlbkckgaaIkH
import Derived.Deep.QuietTactic
namespace Go.Proofs.Ytpjobehlbkckgaa
open Go.RowKit Go.Deep
attribute [local go_sem] Oper.semAt_some run_store_nf run_store_f
set_option maxHeartbeats 2000000 in
set_option maxRecDepth 1000000 in
theorem keys_t1 {w1 : World} {R : Ending → World → Prop} {a aw al : Option Addr} {n cap g cr m k cw cl gl : Nat} {vs : List V3} {r : List Int} {h : Int} {x2 x3 x4 x7 x9 x10 x11 x12 x13 x14 x15 x16 x17 x18 x19 x20 x21 x22 x23 x24 x25 x26 x27 x28 x29 x30 x31 x32 x33 x34 x35 x36 x37 x38 x39 x40 x41 x42 x43 x44 x45 x46 x47 x48 x49 x50 x51 x52 x53 x54 x55 x56 x57 x58 x59 x60 x61 x62 x63 x64 x65 x66 x67 x68 x69 x70 x71 x72 x73 x74 x75 x76 x77 x78 x79 x80 x81 x82 x83 x84 x85 x86 x87 x88 x89 x90 x91 x92 x93 x94 x95 x96 x97 x98 x99 x100 x101 x102 x103 x104 x105 x106 x107 x108 x109 x110 x111 x112 x113 x114 x115 x116 x117 x118 x119 x120 x121 x122 x123 x124 x125 x126 x127 x128 x129 x130 x131 x132 x133 x134 x135 x136 x137 x138 x139 x140 x141 x142 x143 x144 x145 x146 x147 x148 x149 x150 x151 x152 x153 x154 x155 x156 x157 x158 x159 x160 x161 x162 x163 : Value} (hV : VL w1 a vs) (hRo : VL w1 (some ⟨g, 0, none⟩) (vs ++ [⟨77, 0, false⟩, ⟨78, 0, false⟩])) (hn : vs.length = n) (hb : n ≤ 1048576) (hm : m = n + 2) (hcr : m ≤ cr) (hW : NUM w1 aw r) (hr : r.length = k) (hk : k ≤ 1048578) (hK : (keysOf vs h).getD [] = r) (hL : CL w1 gl (nvs r)) (hgl : 0 < k → al = some ⟨gl, 0, none⟩) (hg : g < gl) (hgw : ∀ b off, aw = some ⟨b, off, none⟩ → b < gl) (hll : 0 < k → gl < w1.heap.size)
    (hR : ∀ w', Keeps (fun i => i = gl) w1 w' → R (.returned (.bool true)) w') :
    (keysT1 Try.f3).wp Try.prog (bodyPost Try.prog Try.f3 R) { tmps := #[.slice a n cap, .int .i64 h, x2, x3, x4, .slice (some ⟨g, 0, none⟩) m cr, .slice aw k cw, x7, .slice al k cl, x9, x10, x11, x12, x13, x14, x15, x16, x17, x18, x19, x20, x21, x22, x23, x24, x25, x26, x27, x28, x29, x30, x31, x32, x33, x34, x35, x36, x37, x38, x39, x40, x41, x42, x43, x44, x45, x46, x47, x48, x49, x50, x51, x52, x53, x54, x55, x56, x57, x58, x59, x60, x61, x62, x63, x64, x65, x66, x67, x68, x69, x70, x71, x72, x73, x74, x75, x76, x77, x78, x79, x80, x81, x82, x83, x84, x85, x86, x87, x88, x89, x90, x91, x92, x93, x94, x95, x96, x97, x98, x99, x100, x101, x102, x103, x104, x105, x106, x107, x108, x109, x110, x111, x112, x113, x114, x115, x116, x117, x118, x119, x120, x121, x122, x123, x124, x125, x126, x127, x128, x129, x130, x131, x132, x133, x134, x135, x136, x137, x138, x139, x140, x141, x142, x143, x144, x145, x146, x147, x148, x149, x150, x151, x152, x153, x154, x155, x156, x157, x158, x159, x160, x161, x162, x163], defers := [] } w1 := by
  have HR : Hid (∀ w', Keeps (fun i => i = gl) w1 w' → R (.returned (.bool true)) w') := hR
  clear hR
  have hLN : NUM w1 al r := fun i x hx => by
    have hi := (List.getElem?_eq_some_iff.1 hx).1
    exact ⟨gl, 0, hgl (by omega), by rw [Nat.zero_add]; exact hL.c i _ (by simp [nvs, hx])⟩
  dsimp only [keysT1, Try.f3]
  refine wp_seq_k (fun KK hKK => ?_)
  have hKH : Hid _ := hKK
  clear hKK
  go_wp2_with fail
  go_loopw [10] (fun iv Wr => ∃ j : Nat, iv = .int .i64 (j : Int) ∧ j ≤ k ∧ Keeps (fun _ => False) w1 Wr) (fun iv _ => k - (intOf iv).toNat)
  case atStart => exact ⟨0, rfl, Nat.zero_le _, Keeps.refl _ w1⟩
  case round =>
    obtain ⟨j, rfl, hj, kr⟩ := hrel
    by_cases hlt : j < k
    · have hltI : decide ((j : Int) < (k : Int)) = true := by simp; omega
      have hltJ : (j : Int) < (k : Int) := by omega
      have hj0 : (0 : Int) ≤ (j : Int) := by omega
      have hw1 : IntKind.i64.wrap ((j : Int) + 1) = (j : Int) + 1 := by rw [IntKind.wrap_i64]; omega
      obtain ⟨x, hx⟩ : ∃ x, r[j]? = some x := ⟨_, List.getElem?_eq_getElem (by omega)⟩
      obtain ⟨ba, oa, rfl, c1⟩ := hLN j x hx
      obtain ⟨bb, ob, rfl, c2⟩ := hW j x hx
      have d1 := kr.cell c1 (fun e => e)
      have d2 := kr.cell c2 (fun e => e)
      have hxx : (x != x) = false := by simp
      clear c1 c2 hx hW hLN hRo hV hL hgl hgw
      go_wp2_with fail
      go_quiet (fail)
      go_wp2_with fail
      go_roundw
      case rel => exact ⟨j + 1, by go_num, by omega, kr.drewN _⟩
      case measure => simp [intOf]; omega
    · have hltI : decide ((j : Int) < (k : Int)) = false := by simp; omega
      go_wp2_with fail
      refine hKH.out _ _ ?_
      refine wp_seq_k (fun KK hKK => ?_)
      have hKH : Hid _ := hKK
      clear hKK
      go_wp2_with fail
      go_loopw [11] (fun iv Wr => ∃ j : Nat, iv = .int .i64 (j : Int) ∧ j ≤ n ∧ Keeps (fun _ => False) w1 Wr) (fun iv _ => n - (intOf iv).toNat)
      case atStart => exact ⟨0, rfl, Nat.zero_le _, kr⟩
      case round =>
        obtain ⟨j, rfl, hj, kr⟩ := hrel
        by_cases hlt : j < n
        · have hltI : decide ((j : Int) < (n : Int)) = true := by simp; omega
          have hltJ : (j : Int) < (n : Int) := by omega
          have hltM : (j : Int) < (m : Int) := by omega
          have hj0 : (0 : Int) ≤ (j : Int) := by omega
          have hw1 : IntKind.i64.wrap ((j : Int) + 1) = (j : Int) + 1 := by rw [IntKind.wrap_i64]; omega
          obtain ⟨x, hx⟩ : ∃ x, vs[j]? = some x := ⟨_, List.getElem?_eq_getElem (by omega)⟩
          obtain ⟨ba, oa, rfl, c1, c2, c3⟩ := hV j x hx
          obtain ⟨bb, ob, eb, e1, e2, e3⟩ := hRo j x (by rw [List.getElem?_append_left (by omega)]; exact hx)
          cases eb
          have c1 := kr.cell c1 (fun e => e)
          have c2 := kr.cell c2 (fun e => e)
          have c3 := kr.cell c3 (fun e => e)
          have e1 := kr.cell e1 (fun e => e)
          have e2 := kr.cell e2 (fun e => e)
          have e3 := kr.cell e3 (fun e => e)
          simp only [Nat.zero_add] at e1 e2 e3
          clear hx hW hLN hRo hV hL hgl hgw
          go_wp2_with fail
          go_quiet (fail)
          go_wp2_with fail
          go_roundw
          case rel => exact ⟨j + 1, by go_num, by omega, kr.drewN _⟩
          case measure => simp [intOf]; omega
        · have hltI : decide ((j : Int) < (n : Int)) = false := by simp; omega
          go_wp2_with fail
          refine hKH.out _ _ ?_
          have kr' := kr.mono (T := fun i => i = gl) (fun _ _ e => e.elim)
          exact keys_t2 (hRo.keep kr) hn hb (by first | exact hm | rfl) (by omega) (hW.keep kr (fun _ _ _ e => e)) hr hk hK (CL.keep0 hL kr (fun _ e => e)) hgl hg hgw (fun h0 => Nat.lt_of_lt_of_le (hll h0) kr.size) (fun w' kw => HR.out _ (kr'.trans kw))
end Go.Proofs.Ytpjobehlbkckgaa
