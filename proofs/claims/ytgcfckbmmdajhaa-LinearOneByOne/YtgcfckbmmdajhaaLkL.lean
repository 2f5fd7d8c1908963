import Derived.Test.YtgcfckbmmdajhaaLkK
namespace Go.Proofs.Ytgcfckbmmdajhaa
open Go.RowKit
/-- What follows the first n parts of a function. -/
def seqTl : Nat → Code → Code
  | 0, c => c
  | n + 1, .seq _ t => seqTl n t
  | _ + 1, c => c
def obT (n : Nat) (f : Func) : Code := match f.body with | some c => seqTl n c | none => .skip
theorem bp_is {w : World} {a : Option Addr} {cap : Nat} {l : List Cl} {r : Int} (hl : CSL w a l) (hc : ∀ c ∈ l, C64 c) (hn : l.length ≤ 8) (hM : MayL l) (hb : BpP l (byP l l.length) r) : Calls Try.prog 6 #[.slice a l.length cap] w fun e w' => e = .returned (.tuple #[.int .i64 r, .int .i64 0]) ∧ Keeps (fun _ => False) w w' := by
  refine (byPoints_any hl hc (by omega)).mono ?_
  rintro e w' ⟨r', ec, rfl, h, k⟩
  rcases h with ⟨rfl, _, h⟩ | ⟨rfl, h, _⟩
  · rw [h.one hb]
    exact ⟨rfl, k⟩
  · exact absurd hM h
theorem ke_is {w : World} {a : Option Addr} {cap : Nat} {l : List Cl} (hl : CSL w a l) (hc : ∀ c ∈ l, C64 c) (hn : l.length ≤ 8) (hM : MayL l) : Calls Try.prog 7 #[.slice a l.length cap] w fun e w' => ∃ ka kc, e = .returned (.tuple #[.slice ka (keyL l).length kc, .int .i64 0]) ∧ KL w' ka (keyL l) ∧ Keeps (fun _ => False) w w' := by
  refine (keys_any hl hc (by omega)).mono ?_
  rintro e w' ⟨v, ec, rfl, h, k⟩
  rcases h with ⟨rfl, _, h⟩ | ⟨rfl, h, _⟩
  · obtain ⟨ka, kc, rfl, hk, -, -⟩ := kl_of h
    exact ⟨ka, kc, rfl, hk, k⟩
  · exact absurd hM h
theorem se_found {w : World} {a : Option Addr} {cap : Nat} {l : List Cl} {r : List Nat} (hl : CSL w a l) (hc : ∀ c ∈ l, C64 c) (hn : l.length ≤ 8) (hM : MayL l) (hf : fstL l = some r) : Calls Try.prog 8 #[.slice a l.length cap] w fun e w' => ∃ pa pc, e = .returned (.tuple #[.slice pa r.length pc, .bool true, .int .i64 0]) ∧ KL w' pa (iOf r) ∧ Keeps (fun _ => False) w w' := by
  refine (search_any hl hc (by omega)).mono ?_
  rintro e w' ⟨v, fb, ec, rfl, h, k⟩
  rcases h with ⟨h, _⟩ | ⟨_, h, _⟩ | ⟨_, _, rfl, h⟩
  · omega
  · exact absurd hM h
  · rcases h with ⟨r', hr, rfl, ho⟩ | ⟨hr, _⟩
    · rw [hf] at hr
      injection hr with hr
      subst hr
      obtain ⟨pa, pc, rfl, -⟩ := own_slice ho
      exact ⟨pa, pc, rfl, (PM.of ho).kl, k⟩
    · rw [hf] at hr
      cases hr
theorem se_lost {w : World} {a : Option Addr} {cap : Nat} {l : List Cl} (hl : CSL w a l) (hc : ∀ c ∈ l, C64 c) (hn : l.length ≤ 8) (hM : MayL l) (hf : fstL l = none) : Calls Try.prog 8 #[.slice a l.length cap] w fun e w' => e = .returned (.tuple #[.slice none 0 0, .bool false, .int .i64 0]) ∧ Keeps (fun _ => False) w w' := by
  refine (search_any hl hc (by omega)).mono ?_
  rintro e w' ⟨v, fb, ec, rfl, h, k⟩
  rcases h with ⟨h, _⟩ | ⟨_, h, _⟩ | ⟨_, _, rfl, h⟩
  · omega
  · exact absurd hM h
  · rcases h with ⟨r', hr, rfl, ho⟩ | ⟨hr, rfl, rfl⟩
    · rw [hf] at hr
      cases hr
    · exact ⟨rfl, k⟩
set_option maxHeartbeats 1000000 in
set_option maxRecDepth 100000 in
/-- One answer is turned: the end. -/
theorem ob_3 {w0 X : World} {a8 : Option Addr} {c8 n k : Nat} {l : List Cl} {x0 x2 x3 x4 x5 x6 x7 x9 x10 x11 x12 x13 x14 x15 x16 x17 x18 x19 x20 x21 x22 x23 x24 x25 x26 x27 x28 x29 x30 x31 x32 x33 x34 x35 x36 x37 x38 x39 x40 x41 x42 x43 x44 x45 x46 x47 x48 x49 x50 x51 x52 x53 x54 x55 x56 x57 x58 x59 x60 x61 x62 x63 x64 x65 x66 x67 x68 x69 x70 x71 x72 x73 x74 x75 x76 x77 x78 x79 x80 x81 x82 x83 x84 x85 x86 x87 x88 x89 x90 x91 x92 x93 x94 x95 x96 x97 x98 x99 x100 x101 x102 x103 x104 x105 x106 x107 x108 x109 x110 x111 x112 x113 x114 x115 x116 x117 x118 x119 x120 x121 x122 x123 x124 x125 x126 x127 x128 x129 x130 x131 x132 x133 x134 x135 x136 x137 x138 x139 x140 x141 x142 x143 x144 x145 x146 x147 x148 x149 x150 x151 x152 x153 x154 x155 x156 x157 x158 x159 x160 x161 x162 x163 x164 x165 x166 x167 x168 x169 x170 x171 x172 x173 x174 x175 x176 x177 x178 x179 x180 x181 x182 x183 x184 x185 x186 x187 x188 x189 x190 x191 x192 x193 x194 x195 x196 x197 : Value} (hN : l.length = n) (hn : n ≤ 8) (hL : CSL X a8 l) (hc : ∀ c ∈ l, C64 c) (hM : MayL l) (hb : BpP l (byP l l.length) (k : Int)) (hf : fstL l = none) (kX : Keeps (fun _ => False) w0 X) : (obT 13 Try.f3).wp Try.prog (bodyPost Try.prog Try.f3 (fun e w' => e = .returned (.bool true) ∧ Below w0.heap.size w0 w')) { tmps := #[x0, .int .i64 (k : Int), x2, x3, x4, x5, x6, x7, .slice a8 n c8, x9, x10, x11, x12, x13, x14, x15, x16, x17, x18, x19, x20, x21, x22, x23, x24, x25, x26, x27, x28, x29, x30, x31, x32, x33, x34, x35, x36, x37, x38, x39, x40, x41, x42, x43, x44, x45, x46, x47, x48, x49, x50, x51, x52, x53, x54, x55, x56, x57, x58, x59, x60, x61, x62, x63, x64, x65, x66, x67, x68, x69, x70, x71, x72, x73, x74, x75, x76, x77, x78, x79, x80, x81, x82, x83, x84, x85, x86, x87, x88, x89, x90, x91, x92, x93, x94, x95, x96, x97, x98, x99, x100, x101, x102, x103, x104, x105, x106, x107, x108, x109, x110, x111, x112, x113, x114, x115, x116, x117, x118, x119, x120, x121, x122, x123, x124, x125, x126, x127, x128, x129, x130, x131, x132, x133, x134, x135, x136, x137, x138, x139, x140, x141, x142, x143, x144, x145, x146, x147, x148, x149, x150, x151, x152, x153, x154, x155, x156, x157, x158, x159, x160, x161, x162, x163, x164, x165, x166, x167, x168, x169, x170, x171, x172, x173, x174, x175, x176, x177, x178, x179, x180, x181, x182, x183, x184, x185, x186, x187, x188, x189, x190, x191, x192, x193, x194, x195, x196, x197], defers := [] } X := by
  have hbp := bp_is (cap := c8) hL hc (by omega) hM hb
  have HSE : Hid (∀ W, Keeps (fun _ => False) X W → Calls Try.prog 8 #[.slice a8 l.length c8] W fun e w' => e = .returned (.tuple #[.slice none 0 0, .bool false, .int .i64 0]) ∧ Keeps (fun _ => False) W w') := fun W kW => se_lost (hL.keep kW) hc (by omega) hM hf
  rw [hN] at hbp HSE
  have hnu := fun W x => num_any x W
  clear hL hc hM hb hf hN hn l
  dsimp only [obT, seqTl, Try.f3]
  refine wp_seq_k (fun KK hKK => ?_)
  have hKH : Hid _ := hKK
  clear hKK
  go_wp2_with (go_at_call 6; refine hbp.mono ?_; clear hbp; rintro e w1 ⟨rfl, K1⟩; have hse := HSE.out w1 K1; clear HSE)
  refine hKH.out _ _ ?_
  clear hKH KK
  refine wp_seq_k (fun KK hKK => ?_)
  have hKH : Hid _ := hKK
  clear hKK
  go_wp2_with (go_at_call 8; refine hse.mono ?_; clear hse; rintro e w2 ⟨rfl, K2⟩)
  refine hKH.out _ _ ?_
  clear hKH KK
  go_wp2_with (go_at_call 9; refine (hnu _ _).mono ?_; rintro e wn ⟨rfl, hwn⟩; rw [hwn]; clear hwn wn)
  go_ret
  exact ⟨rfl, ((kX.trans K1).trans K2).below (Nat.le_refl _) (fun _ _ e => e)⟩
set_option maxHeartbeats 1000000 in
set_option maxRecDepth 100000 in
/-- An answer is turned. -/
theorem ob_2 {w0 X : World} {base g c8 n k : Nat} {l : List Cl} {bz : Int} {x0 x3 x4 x5 x6 x7 x9 x10 x11 x12 x13 x14 x15 x16 x17 x18 x19 x20 x21 x22 x23 x24 x25 x26 x27 x28 x29 x30 x31 x32 x33 x34 x35 x36 x37 x38 x39 x40 x41 x42 x43 x44 x45 x46 x47 x48 x49 x50 x51 x52 x53 x54 x55 x56 x57 x58 x59 x60 x61 x62 x63 x64 x65 x66 x67 x68 x69 x70 x71 x72 x73 x74 x75 x76 x77 x78 x79 x80 x81 x82 x83 x84 x85 x86 x87 x88 x89 x90 x91 x92 x93 x94 x95 x96 x97 x98 x99 x100 x101 x102 x103 x104 x105 x106 x107 x108 x109 x110 x111 x112 x113 x114 x115 x116 x117 x118 x119 x120 x121 x122 x123 x124 x125 x126 x127 x128 x129 x130 x131 x132 x133 x134 x135 x136 x137 x138 x139 x140 x141 x142 x143 x144 x145 x146 x147 x148 x149 x150 x151 x152 x153 x154 x155 x156 x157 x158 x159 x160 x161 x162 x163 x164 x165 x166 x167 x168 x169 x170 x171 x172 x173 x174 x175 x176 x177 x178 x179 x180 x181 x182 x183 x184 x185 x186 x187 x188 x189 x190 x191 x192 x193 x194 x195 x196 x197 : Value} (hz : I64 bz) (hN : l.length = n) (hn : n ≤ 8) (hk : k < n) (hO : OneL l) (hg : ∀ k, k < l.length → goK l (List.range l.length) k = true) (hc : ∀ c ∈ l, C64 c) (h8 : X.ownsRow base 33 8 (.slice (some ⟨g, 0, none⟩) n c8) n (ccl l)) (hbw : w0.heap.size ≤ base) (kX : Keeps (fun _ => False) w0 X) : (obT 11 Try.f3).wp Try.prog (bodyPost Try.prog Try.f3 (fun e w' => e = .returned (.bool true) ∧ Below w0.heap.size w0 w')) { tmps := #[x0, .int .i64 (k : Int), .int .i64 bz, x3, x4, x5, x6, x7, .slice (some ⟨g, 0, none⟩) n c8, x9, x10, x11, x12, x13, x14, x15, x16, x17, x18, x19, x20, x21, x22, x23, x24, x25, x26, x27, x28, x29, x30, x31, x32, x33, x34, x35, x36, x37, x38, x39, x40, x41, x42, x43, x44, x45, x46, x47, x48, x49, x50, x51, x52, x53, x54, x55, x56, x57, x58, x59, x60, x61, x62, x63, x64, x65, x66, x67, x68, x69, x70, x71, x72, x73, x74, x75, x76, x77, x78, x79, x80, x81, x82, x83, x84, x85, x86, x87, x88, x89, x90, x91, x92, x93, x94, x95, x96, x97, x98, x99, x100, x101, x102, x103, x104, x105, x106, x107, x108, x109, x110, x111, x112, x113, x114, x115, x116, x117, x118, x119, x120, x121, x122, x123, x124, x125, x126, x127, x128, x129, x130, x131, x132, x133, x134, x135, x136, x137, x138, x139, x140, x141, x142, x143, x144, x145, x146, x147, x148, x149, x150, x151, x152, x153, x154, x155, x156, x157, x158, x159, x160, x161, x162, x163, x164, x165, x166, x167, x168, x169, x170, x171, x172, x173, x174, x175, x176, x177, x178, x179, x180, x181, x182, x183, x184, x185, x186, x187, x188, x189, x190, x191, x192, x193, x194, x195, x196, x197], defers := [] } X := by
  have hkl : k < l.length := by omega
  have HC : Hid (∀ y r, ∀ c ∈ l.set k (trn (l.getD k cl0) y r), C64 c) := fun y r c hx => by
    rcases List.mem_or_eq_of_mem_set hx with h | rfl
    · exact hc c h
    · have := c64_at hc k
      exact ⟨this.k, this.o⟩
  have HM : Hid (∀ y r, MayL (l.set k (trn (l.getD k cl0) y r))) := fun y r => (hO.trnd hkl y r).may
  have HNA : Hid (∀ y r, ¬ (y = (l.getD k cl0).yes ∧ r = (l.getD k cl0).result) → BpP (l.set k (trn (l.getD k cl0) y r)) (byP (l.set k (trn (l.getD k cl0) y r)) (l.set k (trn (l.getD k cl0) y r)).length) k ∧ fstL (l.set k (trn (l.getD k cl0) y r)) = none) := fun y r h => hO.names hg hkl h
  have hB := own_clL h8
  have c3 : X.cell? ⟨g, k * 8 + 3, none⟩ = some (.bool (l.getD k cl0).yes) := hB.c _ _ (by rw [ccl_cell hkl (by decide)]; rfl)
  have c4 : X.cell? ⟨g, k * 8 + 4, none⟩ = some (.int .i64 (l.getD k cl0).result) := hB.c _ _ (by rw [ccl_cell hkl (by decide)]; rfl)
  have HL3 : Hid (k * 8 + 3 < (ccl l).length) := by show _ < _; rw [ccl_len]; omega
  have HS3 : Hid (∀ y, (ccl l).set (k * 8 + 3) (.bool y) = ccl (l.set k (trn (l.getD k cl0) y (l.getD k cl0).result))) := fun y => ccl_set hkl (by decide) (trn_cells_y _ y)
  have HGB : Hid (base ≤ g) := owns_baseT h8 g rfl
  have HKE : Hid (∀ W W', Keeps (fun _ => False) w0 W → Keeps (fun k => k = g) W W' → Keeps (fun _ => False) w0 W') := fun W W' h1 h2 => h1.trans' h2 (fun _ _ e => e) (fun i hi e => by have := HGB.out; have e : i = g := e; omega)
  have HH8 : Hid (X.ownsRow base 33 8 (.slice (some ⟨g, 0, none⟩) n c8) n (ccl l)) := h8
  have hk0 : (0 : Int) ≤ (k : Int) := by omega
  have hkn : (k : Int) < (n : Int) := by omega
  have HN : Hid (l.length = n) := hN
  clear h8 hO hg hc hB hbw hkl hN
  dsimp only [obT, seqTl, Try.f3]
  have HN4 : Hid (∀ y, k * 8 + 4 < (ccl (l.set k (trn (l.getD k cl0) y (l.getD k cl0).result))).length) := fun y => by rw [ccl_len, List.length_set, HN.out]; omega
  have HS4 : Hid (∀ y r, (ccl (l.set k (trn (l.getD k cl0) y (l.getD k cl0).result))).set (k * 8 + 4) (.int .i64 r) = ccl (l.set k (trn (l.getD k cl0) y r))) := fun y r => by
    have hkl : k < l.length := by rw [HN.out]; exact hk
    have h := ccl_set (l := l.set k (trn (l.getD k cl0) y (l.getD k cl0).result)) (k := k) (by rw [List.length_set]; exact hkl) (c := trn (l.getD k cl0) y r) (j := 4) (v := .int .i64 r) (by decide) (by rw [getD_setC hkl, if_pos rfl]; rfl)
    rw [List.set_set] at h
    exact h
  have HR4 : Hid (∀ (W : World) (y : Bool) (cp : Nat), W.ownsRow base 33 8 (.slice (some ⟨g, 0, none⟩) n cp) n (ccl (l.set k (trn (l.getD k cl0) y (l.getD k cl0).result))) → W.cell? ⟨g, k * 8 + 4, none⟩ = some (.int .i64 (l.getD k cl0).result)) := fun W y cp h => by
    have hkl : k < l.length := by rw [HN.out]; exact hk
    exact (own_clL h).c _ _ (by rw [ccl_cell (by rw [List.length_set]; exact hkl) (by decide), getD_setC hkl, if_pos rfl]; rfl)
  by_cases hb0 : bz = 0
  · subst hb0
    obtain ⟨y, hy⟩ : ∃ y, y = (l.getD k cl0).yes := ⟨_, rfl⟩
    have HY : Hid (y = (l.getD k cl0).yes) := hy
    rw [← hy] at c3
    clear hy
    refine wp_seq_k (fun KK hKK => ?_)
    have hKH : Hid _ := hKK
    clear hKK
    go_wp2_with (refine wpList_store_bR rfl rfl _ _ rfl g (k * 8 + 3) rfl (!y) rfl HH8.out HL3.out ?_; intro w1 ho1 k1; rw [HS3.out] at ho1; have c5 := HR4.out w1 _ _ ho1; have K1 := HKE.out _ _ kX k1; clear k1 c3 c4)
    refine hKH.out _ _ ?_
    clear hKH KK
    refine wp_seq_k (fun KK hKK => ?_)
    have hKH : Hid _ := hKK
    clear hKK
    go_wp2_with (refine wpList_store_kR rfl rfl _ _ rfl g (k * 8 + 4) rfl _ rfl ho1 (HN4.out _) ?_; intro w2 ho2 k2; rw [HS4.out] at ho2; have K2 := HKE.out _ _ K1 k2; clear k2)
    refine hKH.out _ _ ?_
    clear hKH KK
    obtain ⟨a', cap', e', hL, -⟩ := csl_of ho2
    injection e' with e1 _ e2
    subst e1 e2
    refine ob_3 (by rw [List.length_set]; exact HN.out) hn hL (HC.out _ _) (HM.out _ _) (HNA.out _ _ ?_).1 (HNA.out _ _ ?_).2 K2 <;> exact (fun h => by rw [← HY.out] at h; have h := h.1; revert h; cases y <;> decide)
  · have b1 : decide (bz = 0) = false := decide_eq_false hb0
    have b2 : (bz == 0) = false := beq_eq_false_iff_ne.2 hb0
    have HH9 : Hid (X.ownsRow base 33 8 (.slice (some ⟨g, 0, none⟩) n c8) n (ccl (l.set k (trn (l.getD k cl0) (l.getD k cl0).yes (l.getD k cl0).result)))) := by
      have e : l.set k (trn (l.getD k cl0) (l.getD k cl0).yes (l.getD k cl0).result) = l := by
        apply List.ext_getElem?
        intro i
        rw [List.getElem?_set]
        split
        · rename_i e
          subst e
          have hkl : k < l.length := by rw [HN.out]; exact hk
          rw [if_pos hkl, List.getElem?_eq_getElem hkl, List.getD_eq_getElem?_getD, List.getElem?_eq_getElem hkl]
          rfl
        · rfl
      show World.ownsRow _ _ _ _ _ _ _
      rw [e]
      exact HH8.out
    have HB0 : Hid (bz ≠ 0) := hb0
    clear hb0
    refine wp_seq_k (fun KK hKK => ?_)
    have hKH : Hid _ := hKK
    clear hKK
    go_wp2_with fail
    refine hKH.out _ _ ?_
    clear hKH KK
    refine wp_seq_k (fun KK hKK => ?_)
    have hKH : Hid _ := hKK
    clear hKK
    go_wp2_with (refine wpList_store_kR rfl rfl _ _ rfl g (k * 8 + 4) rfl _ rfl HH9.out (HN4.out _) ?_; intro w2 ho2 k2; rw [HS4.out] at ho2; have K2 := HKE.out _ _ kX k2; clear k2)
    refine hKH.out _ _ ?_
    clear hKH KK
    obtain ⟨a', cap', e', hL, -⟩ := csl_of ho2
    injection e' with e1 _ e2
    subst e1 e2
    refine ob_3 (by rw [List.length_set]; exact HN.out) hn hL (HC.out _ _) (HM.out _ _) (HNA.out _ _ ?_).1 (HNA.out _ _ ?_).2 K2 <;> exact (fun h => by have h := h.2; have := HB0.out; unfold I64 at hz; unfold wrap64 at h; rw [← List.getD_eq_getElem?_getD] at h; omega)
end Go.Proofs.Ytgcfckbmmdajhaa
