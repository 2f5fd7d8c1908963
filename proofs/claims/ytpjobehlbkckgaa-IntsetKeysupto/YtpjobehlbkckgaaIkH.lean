import Derived.Test.YtpjobehlbkckgaaIkG
import Derived.Deep.QuietTactic
namespace Go.Proofs.Ytpjobehlbkckgaa
open Go.RowKit Go.Deep
attribute [local go_sem] Oper.semAt_some run_store_nf run_store_f
theorem NUM.keep0 {w w' : World} {a : Option Addr} {os : List Int} (h : NUM w a os) {S : Nat → Prop} (k : Keeps S w w') (hS : 0 < os.length → ∀ b off, a = some ⟨b, off, none⟩ → ¬ S b) : NUM w' a os := fun i x hx => by
  obtain ⟨b, off, e, c⟩ := h i x hx
  exact ⟨b, off, e, k.cell c (hS (by have := (List.getElem?_eq_some_iff.1 hx).1; omega) b off e)⟩
theorem CL.keep0 {w w' : World} {b : Nat} {l : List Value} {S : Nat → Prop} (h : CL w b l) (k : Keeps S w w') (hS : 0 < l.length → ¬ S b) : CL w' b l := by
  by_cases hl : 0 < l.length
  · exact h.keep hl k (hS hl)
  · exact ⟨fun o v e => by have := (List.getElem?_eq_some_iff.1 e).1; omega, fun o ho => by omega⟩
theorem VL.keepS {w w' : World} {a : Option Addr} {l : List V3} {S : Nat → Prop} (h : VL w a l) (k : Keeps S w w') (hS : ∀ b off, a = some ⟨b, off, none⟩ → ¬ S b) : VL w' a l := fun i v hv => by
  obtain ⟨b, off, e, c1, c2, c3⟩ := h i v hv
  exact ⟨b, off, e, k.cell c1 (hS b off e), k.cell c2 (hS b off e), k.cell c3 (hS b off e)⟩
set_option maxHeartbeats 2000000 in
set_option maxRecDepth 1000000 in
theorem keys_t2 {w1 : World} {R : Ending → World → Prop} {a aw al : Option Addr} {n cap g cr m k cw cl gl : Nat} {vs : List V3} {r : List Int} {h : Int} {x2 x3 x4 x7 x9 x10 x11 x12 x13 x14 x15 x16 x17 x18 x19 x20 x21 x22 x23 x24 x25 x26 x27 x28 x29 x30 x31 x32 x33 x34 x35 x36 x37 x38 x39 x40 x41 x42 x43 x44 x45 x46 x47 x48 x49 x50 x51 x52 x53 x54 x55 x56 x57 x58 x59 x60 x61 x62 x63 x64 x65 x66 x67 x68 x69 x70 x71 x72 x73 x74 x75 x76 x77 x78 x79 x80 x81 x82 x83 x84 x85 x86 x87 x88 x89 x90 x91 x92 x93 x94 x95 x96 x97 x98 x99 x100 x101 x102 x103 x104 x105 x106 x107 x108 x109 x110 x111 x112 x113 x114 x115 x116 x117 x118 x119 x120 x121 x122 x123 x124 x125 x126 x127 x128 x129 x130 x131 x132 x133 x134 x135 x136 x137 x138 x139 x140 x141 x142 x143 x144 x145 x146 x147 x148 x149 x150 x151 x152 x153 x154 x155 x156 x157 x158 x159 x160 x161 x162 x163 : Value} (hRo : VL w1 (some ⟨g, 0, none⟩) (vs ++ [⟨77, 0, false⟩, ⟨78, 0, false⟩])) (hn : vs.length = n) (hb : n ≤ 1048576) (hm : m = n + 2) (hcr : m ≤ cr) (hW : NUM w1 aw r) (hr : r.length = k) (hk : k ≤ 1048578) (hK : (keysOf vs h).getD [] = r) (hL : CL w1 gl (nvs r)) (hgl : 0 < k → al = some ⟨gl, 0, none⟩) (hg : g < gl) (hgw : ∀ b off, aw = some ⟨b, off, none⟩ → b < gl) (hll : 0 < k → gl < w1.heap.size)
    (hR : ∀ w', Keeps (fun i => i = gl) w1 w' → R (.returned (.bool true)) w') :
    (keysT2 Try.f3).wp Try.prog (bodyPost Try.prog Try.f3 R) { tmps := #[.slice a n cap, .int .i64 h, x2, x3, x4, .slice (some ⟨g, 0, none⟩) m cr, .slice aw k cw, x7, .slice al k cl, x9, x10, x11, x12, x13, x14, x15, x16, x17, x18, x19, x20, x21, x22, x23, x24, x25, x26, x27, x28, x29, x30, x31, x32, x33, x34, x35, x36, x37, x38, x39, x40, x41, x42, x43, x44, x45, x46, x47, x48, x49, x50, x51, x52, x53, x54, x55, x56, x57, x58, x59, x60, x61, x62, x63, x64, x65, x66, x67, x68, x69, x70, x71, x72, x73, x74, x75, x76, x77, x78, x79, x80, x81, x82, x83, x84, x85, x86, x87, x88, x89, x90, x91, x92, x93, x94, x95, x96, x97, x98, x99, x100, x101, x102, x103, x104, x105, x106, x107, x108, x109, x110, x111, x112, x113, x114, x115, x116, x117, x118, x119, x120, x121, x122, x123, x124, x125, x126, x127, x128, x129, x130, x131, x132, x133, x134, x135, x136, x137, x138, x139, x140, x141, x142, x143, x144, x145, x146, x147, x148, x149, x150, x151, x152, x153, x154, x155, x156, x157, x158, x159, x160, x161, x162, x163], defers := [] } w1 := by
  have HR : Hid (∀ w', Keeps (fun i => i = gl) w1 w' → R (.returned (.bool true)) w') := hR
  clear hR
  have hRv : VL w1 (some ⟨g, 0, none⟩) vs := fun i v hv => hRo i v (by rw [List.getElem?_append_left ((List.getElem?_eq_some_iff.1 hv).1)]; exact hv)
  have hk_ := keys_any (n := n) (cap := cr) hRv hn (by omega) h
  rw [hK, hr] at hk_
  have s1 : (n : Int) ≤ (cr : Int) := by omega
  have s2 : n ≤ cr := by omega
  have s3 : (0 : Int) ≤ (n : Int) := by omega
  clear hRv hK
  dsimp only [keysT2, Try.f3]
  refine wp_seq_k (fun KK hKK => ?_)
  have hKH : Hid _ := hKK
  clear hKK
  go_wp2_with (go_at_call 5; refine hk_.mono ?_; clear hk_; rintro e w2 ⟨v, rfl, ho, k2⟩; obtain ⟨ag, cg, rfl, hG, hBg⟩ := num_of_owns ho hr; have hL2 := CL.keep0 hL k2 (fun _ e => e); clear ho hL)
  refine hKH.out _ _ ?_
  clear hKH KK
  refine wp_seq_k (fun KK hKK => ?_)
  have hKH : Hid _ := hKK
  clear hKK
  have hB : Hid (∀ b off, ag = some ⟨b, off, none⟩ → w1.heap.size ≤ b) := fun b off e => (hBg b off e).1
  clear hBg
  go_wp2_with fail
  go_loopw [14] (fun iv Wr => ∃ (j : Nat) (X : List Value), iv = .int .i64 (j : Int) ∧ j ≤ k ∧ X.length = k ∧ CL Wr gl X ∧ Keeps (fun i => i = gl) w2 Wr) (fun iv _ => k - (intOf iv).toNat)
  case atStart => exact ⟨0, _, rfl, Nat.zero_le _, by simp [nvs, hr], hL2, Keeps.refl _ w2⟩
  case round =>
    obtain ⟨j, X, rfl, hj, hX, CX, kr⟩ := hrel
    by_cases hlt : j < k
    · have hltI : decide ((j : Int) < (k : Int)) = true := by simp; omega
      have hltJ : (j : Int) < (k : Int) := by omega
      have hj0 : (0 : Int) ≤ (j : Int) := by omega
      have hw1 : IntKind.i64.wrap ((j : Int) + 1) = (j : Int) + 1 := by rw [IntKind.wrap_i64]; omega
      obtain rfl := hgl (by omega)
      have yz := CX.z j (by omega)
      have yc := CX.c j _ (List.getElem?_eq_getElem (by omega))
      generalize X[j] = old at *
      have CS := CX.set (show j < X.length by omega) (.int .i64 77)
      have kS : Keeps (fun i => i = gl) wr (wr.setCell ⟨gl, j, none⟩ (.int .i64 77)) := (Keeps.refl _ wr).setA j _
      have KS := kr.trans kS
      clear hRo hW hG hL2 hgw hgl CX
      go_wp2_with fail
      go_roundw
      case rel => exact ⟨j + 1, X.set j (.int .i64 77), by go_num, by omega, by simp [hX], CS, KS⟩
      case measure => simp [intOf]; omega
    · have hltI : decide ((j : Int) < (k : Int)) = false := by simp; omega
      go_wp2_with fail
      refine hKH.out _ _ ?_
      have k2' := k2.mono (T := fun i => i = gl) (fun _ _ e => e.elim)
      have hs2 := k2.size
      refine keys_t3 ((hRo.keep k2).keepS kr (fun b off e => ?_)) hn hb (by first | exact hm | rfl) ((hW.keep k2 (fun _ _ _ e => e)).keep kr (fun b off e => ?_)) hr hk (hG.keep0 kr (fun h0 b off e => ?_)) (fun w' kw => HR.out _ ((k2'.trans kr).trans (kw.mono (fun _ _ e => e.elim))))
      · cases e; omega
      · have := hgw b off e; omega
      · have := hB.out b off e; have := hll (by omega); omega
end Go.Proofs.Ytpjobehlbkckgaa
