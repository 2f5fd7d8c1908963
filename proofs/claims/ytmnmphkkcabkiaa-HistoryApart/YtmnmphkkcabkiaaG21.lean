import Derived.Test.YtmnmphkkcabkiaaG20
import Derived.Test.YtmnmphkkcabkiaaG15
namespace Go.Proofs.Ytmnmphkkcabkiaa
open Go.RowKit
set_option maxHeartbeats 1000000 in
set_option maxRecDepth 100000 in
theorem ap_10 {w0 : World} {fa a0 : Option Addr} {N n fc c0 M m : Nat} {s : Int} {lw : List Rw} {ts : List Tv} {F0 G : Nat → V3} {w8 X : World} {a7 a8 a10 al : Option Addr} {c7 c8 c10 cl bl : Nat} {sl wl : Nat → Value} {ρl : Nat → Nat} {x2 x3 x4 x5 x6 x14 x15 x16 x17 x18 x19 x20 x21 x22 x23 x24 x25 x26 x27 x28 x29 x30 x31 x32 x33 x34 x35 x36 x37 x38 x39 x40 x41 x42 x43 x44 x45 x46 x47 x48 x49 x50 x51 x52 x53 x54 x55 x56 x57 x58 x59 x60 x61 x62 x63 x64 x65 x66 x67 x68 x69 x70 x71 x72 x73 x74 x75 x76 x77 x78 x79 x80 x81 x82 x83 x84 x85 x86 x87 x88 x89 x90 x91 x92 x93 x94 x95 x96 x97 x98 x99 x100 x101 x102 x103 x104 x105 x106 x107 x108 x109 x110 x111 x112 x113 x114 x115 x116 x117 x118 x119 x120 x121 x122 x123 x124 x125 x126 x127 x128 x129 x130 x131 x132 x133 x134 x135 x136 x137 x138 x139 x140 x141 x142 x143 x144 x145 x146 x147 x148 x149 x150 x151 x152 x153 x154 x155 x156 x157 x158 x159 x160 x161 x162 x163 x164 x165 x166 x167 x168 x169 x170 x171 x172 x173 x174 x175 x176 x177 x178 x179 x180 x181 x182 x183 x184 x185 x186 x187 x188 x189 x190 x191 x192 x193 x194 x195 x196 x197 x198 x199 x200 x201 x202 x203 x204 x205 x206 x207 x208 x209 x210 x211 x212 x213 x214 x215 x216 x217 x218 x219 x220 x221 x222 x223 x224 x225 x226 x227 x228 x229 x230 x231 x232 x233 x234 x235 x236 x237 x238 x239 x240 x241 x242 x243 x244 x245 x246 x247 x248 x249 x250 x251 x252 x253 x254 x255 x256 x257 x258 x259 x260 x261 x262 x263 x264 x265 x266 x267 x268 x269 x270 x271 x272 x273 x274 x275 x276 x277 x278 x279 x280 x281 x282 x283 x284 x285 x286 x287 x288 x289 x290 x291 x292 x293 x294 x295 x296 x297 x298 x299 x300 x301 x302 x303 x304 x305 x306 x307 x308 x309 x310 x311 x312 x313 x314 x315 x316 x317 x318 x319 x320 x321 x322 x323 x324 x325 x326 x327 x328 x329 x330 x331 x332 x333 x334 x335 x336 x337 x338 x339 x340 x341 x342 x343 x344 x345 x346 x347 x348 x349 x350 x351 x352 x353 x354 x355 x356 x357 x358 x359 x360 x361 x362 x363 x364 x365 x366 x367 x368 : Value} (HPA : ∀ W, Keeps (fun _ => False) w0 W → Calls Try.prog 11 #[.slice fa M fc, .slice a0 N c0, .int .i64 s] W fun e w' => ∃ v, e = .returned (.tuple #[v, .int .i64 0]) ∧ w'.ownsRow W.heap.size 27 3 v M (gvl G M) ∧ Keeps (fun _ => False) W w') (HTX : ∀ W, Keeps (fun _ => False) w0 W → Calls Try.prog 12 #[.slice a0 N c0] W fun e w' => ∃ base lv sv wv ρ, e = .returned (.tuple #[lv, .int .i64 0]) ∧ W.heap.size ≤ base ∧ TL base w' lv ts sv wv ρ m ∧ Keeps (fun _ => False) W w') (hN : lw.length = N) (hn : N ≤ 980000000000) (hm : m ≤ 980000000000) (hts : ts.length = n) (hnN : n ≤ N) (hM : M ≤ 5864062014805) (hR : RSL w8 a0 lw) (hS : RSL w8 a7 lw) (hF : VS w8 fa M F0) (hV : VS w8 a8 M F0) (hW : VS w8 a10 M G) (k0 : Keeps (fun _ => False) w0 w8) (kX : Keeps (fun _ => False) w8 X) (hb0 : ∀ b, (Value.slice al n cl).ownBlock = some b → w8.heap.size ≤ b ∧ b < X.heap.size) (hb1 : ∀ i, i < n → ∀ b, (sl i).ownBlock = some b → w8.heap.size ≤ b ∧ b < X.heap.size) (hb2 : ∀ i, i < n → ∀ b, (wl i).ownBlock = some b → w8.heap.size ≤ b ∧ b < X.heap.size) (hl : TL bl X (.slice al n cl) ts sl wl ρl m) (hn0 : 0 < n) (hq2 : (ts.getD 0 tv0).saws.length = 2) (hq1 : (ts.getD 0 tv0).wrs.length = 1) : (apT 10 Try.f5).wp Try.prog (bodyPost Try.prog Try.f5 (fun e w' => e = .returned (.bool true) ∧ Below w0.heap.size w0 w')) { tmps := #[.slice a0 N c0, .slice fa M fc, x2, x3, x4, x5, x6, .slice a7 N c7, .slice a8 M c8, .int .i64 s, .slice a10 M c10, .int .i64 0, .slice al n cl, .int .i64 0, x14, x15, x16, x17, x18, x19, x20, x21, x22, x23, x24, x25, x26, x27, x28, x29, x30, x31, x32, x33, x34, x35, x36, x37, x38, x39, x40, x41, x42, x43, x44, x45, x46, x47, x48, x49, x50, x51, x52, x53, x54, x55, x56, x57, x58, x59, x60, x61, x62, x63, x64, x65, x66, x67, x68, x69, x70, x71, x72, x73, x74, x75, x76, x77, x78, x79, x80, x81, x82, x83, x84, x85, x86, x87, x88, x89, x90, x91, x92, x93, x94, x95, x96, x97, x98, x99, x100, x101, x102, x103, x104, x105, x106, x107, x108, x109, x110, x111, x112, x113, x114, x115, x116, x117, x118, x119, x120, x121, x122, x123, x124, x125, x126, x127, x128, x129, x130, x131, x132, x133, x134, x135, x136, x137, x138, x139, x140, x141, x142, x143, x144, x145, x146, x147, x148, x149, x150, x151, x152, x153, x154, x155, x156, x157, x158, x159, x160, x161, x162, x163, x164, x165, x166, x167, x168, x169, x170, x171, x172, x173, x174, x175, x176, x177, x178, x179, x180, x181, x182, x183, x184, x185, x186, x187, x188, x189, x190, x191, x192, x193, x194, x195, x196, x197, x198, x199, x200, x201, x202, x203, x204, x205, x206, x207, x208, x209, x210, x211, x212, x213, x214, x215, x216, x217, x218, x219, x220, x221, x222, x223, x224, x225, x226, x227, x228, x229, x230, x231, x232, x233, x234, x235, x236, x237, x238, x239, x240, x241, x242, x243, x244, x245, x246, x247, x248, x249, x250, x251, x252, x253, x254, x255, x256, x257, x258, x259, x260, x261, x262, x263, x264, x265, x266, x267, x268, x269, x270, x271, x272, x273, x274, x275, x276, x277, x278, x279, x280, x281, x282, x283, x284, x285, x286, x287, x288, x289, x290, x291, x292, x293, x294, x295, x296, x297, x298, x299, x300, x301, x302, x303, x304, x305, x306, x307, x308, x309, x310, x311, x312, x313, x314, x315, x316, x317, x318, x319, x320, x321, x322, x323, x324, x325, x326, x327, x328, x329, x330, x331, x332, x333, x334, x335, x336, x337, x338, x339, x340, x341, x342, x343, x344, x345, x346, x347, x348, x349, x350, x351, x352, x353, x354, x355, x356, x357, x358, x359, x360, x361, x362, x363, x364, x365, x366, x367, x368], defers := [] } X := by
  have hit : 0 < ts.length := by omega
  have hso := hl.s 0 hit
  have hwo := hl.w 0 hit
  rw [hq2] at hso
  rw [hq1] at hwo
  obtain ⟨sa, sc, es, -⟩ := own_slice hso
  obtain ⟨wa, wc, ew, -⟩ := own_slice hwo
  obtain ⟨gl, rfl⟩ : ∃ gl, al = some ⟨gl, 0, none⟩ := by
    rcases hl.o.2 with ⟨_, h0⟩ | ⟨g', _, _, e, _⟩
    · omega
    · injection e with e _ _
      exact ⟨g', e⟩
  have hcl := own_cl (hts ▸ hl.o)
  have c9 := hcl.c _ _ (gcl_get (c := fun q => (ts.getD q tv0).cells (sl q) (wl q)) (fun _ _ => rfl) hit 9 (sl 0) rfl)
  have c10' := hcl.c _ _ (gcl_get (c := fun q => (ts.getD q tv0).cells (sl q) (wl q)) (fun _ _ => rfl) hit 10 (wl 0) rfl)
  rw [es, Nat.zero_mul, Nat.zero_add] at c9
  rw [ew, Nat.zero_mul, Nat.zero_add] at c10'
  have HL : Hid (TL bl X (.slice (some ⟨gl, 0, none⟩) n cl) ts sl wl ρl m) := hl
  have HPB : Hid (∀ W, Keeps (fun _ => False) w0 W → Calls Try.prog 11 #[.slice fa M fc, .slice a0 N c0, .int .i64 s] W fun e w' => ∃ v, e = .returned (.tuple #[v, .int .i64 0]) ∧ w'.ownsRow W.heap.size 27 3 v M (gvl G M) ∧ Keeps (fun _ => False) W w') := HPA
  have HTY : Hid (∀ W, Keeps (fun _ => False) w0 W → Calls Try.prog 12 #[.slice a0 N c0] W fun e w' => ∃ base lv sv wv ρ, e = .returned (.tuple #[lv, .int .i64 0]) ∧ W.heap.size ≤ base ∧ TL base w' lv ts sv wv ρ m ∧ Keeps (fun _ => False) W w') := HTX
  have HCO : Hid ((lw.length = N) ∧ (ts.length = n) ∧ RSL w8 a0 lw ∧ RSL w8 a7 lw ∧ VS w8 fa M F0 ∧ VS w8 a8 M F0 ∧ VS w8 a10 M G ∧ Keeps (fun _ => False) w0 w8 ∧ Keeps (fun _ => False) w8 X) := ⟨hN, hts, hR, hS, hF, hV, hW, k0, kX⟩
  have HLB : Hid ((∀ b, (Value.slice (some ⟨gl, 0, none⟩) n cl).ownBlock = some b → w8.heap.size ≤ b ∧ b < X.heap.size) ∧ (∀ i, i < n → ∀ b, (sl i).ownBlock = some b → w8.heap.size ≤ b ∧ b < X.heap.size) ∧ (∀ i, i < n → ∀ b, (wl i).ownBlock = some b → w8.heap.size ≤ b ∧ b < X.heap.size)) := ⟨hb0, hb1, hb2⟩
  clear hl HPA HTX hN hts hR hS hF hV hW k0 kX hb0 hb1 hb2 hso hwo hcl hit hq1 hq2 es ew
  have hnm := fun W => num_any W 0
  have d1 : ((n : Int) == 0) = false := by simp; omega
  have d2 : (0 : Int) < (n : Int) := by omega
  have d3 : decide (0 < n) = true := decide_eq_true hn0
  dsimp only [apT, seqTail, Try.f5]
  refine wp_seq_k (fun KK hKK => ?_)
  have hKH : Hid _ := hKK
  clear hKK
  go_wp2_with (go_at_call 13; refine (hnm _).mono ?_; rintro e w9 ⟨rfl, ew⟩; subst w9)
  refine hKH.out _ _ ?_
  clear hKH KK
  refine wp_seq_k (fun KK hKK => ?_)
  have hKH : Hid _ := hKK
  clear hKK
  go_wp2_with fail
  refine hKH.out _ _ ?_
  obtain ⟨hN, hts, hR, hS, hF, hV, hW, k0, kX⟩ := HCO.out
  obtain ⟨lb0, lb1, lb2⟩ := HLB.out
  exact ap_A HPB.out HTY.out hN hn hm hts hnN hM hR hS hF hV hW k0 kX lb0 lb1 lb2 HL.out
set_option maxHeartbeats 1000000 in
set_option maxRecDepth 100000 in
theorem ap_6 {w0 X : World} {fa a0 a7 a8 : Option Addr} {M fc c0 c7 c8 : Nat} {s : Int} {l : List Rw} {F0 : Nat → V3} {x2 x3 x4 x5 x6 x10 x11 x12 x13 x14 x15 x16 x17 x18 x19 x20 x21 x22 x23 x24 x25 x26 x27 x28 x29 x30 x31 x32 x33 x34 x35 x36 x37 x38 x39 x40 x41 x42 x43 x44 x45 x46 x47 x48 x49 x50 x51 x52 x53 x54 x55 x56 x57 x58 x59 x60 x61 x62 x63 x64 x65 x66 x67 x68 x69 x70 x71 x72 x73 x74 x75 x76 x77 x78 x79 x80 x81 x82 x83 x84 x85 x86 x87 x88 x89 x90 x91 x92 x93 x94 x95 x96 x97 x98 x99 x100 x101 x102 x103 x104 x105 x106 x107 x108 x109 x110 x111 x112 x113 x114 x115 x116 x117 x118 x119 x120 x121 x122 x123 x124 x125 x126 x127 x128 x129 x130 x131 x132 x133 x134 x135 x136 x137 x138 x139 x140 x141 x142 x143 x144 x145 x146 x147 x148 x149 x150 x151 x152 x153 x154 x155 x156 x157 x158 x159 x160 x161 x162 x163 x164 x165 x166 x167 x168 x169 x170 x171 x172 x173 x174 x175 x176 x177 x178 x179 x180 x181 x182 x183 x184 x185 x186 x187 x188 x189 x190 x191 x192 x193 x194 x195 x196 x197 x198 x199 x200 x201 x202 x203 x204 x205 x206 x207 x208 x209 x210 x211 x212 x213 x214 x215 x216 x217 x218 x219 x220 x221 x222 x223 x224 x225 x226 x227 x228 x229 x230 x231 x232 x233 x234 x235 x236 x237 x238 x239 x240 x241 x242 x243 x244 x245 x246 x247 x248 x249 x250 x251 x252 x253 x254 x255 x256 x257 x258 x259 x260 x261 x262 x263 x264 x265 x266 x267 x268 x269 x270 x271 x272 x273 x274 x275 x276 x277 x278 x279 x280 x281 x282 x283 x284 x285 x286 x287 x288 x289 x290 x291 x292 x293 x294 x295 x296 x297 x298 x299 x300 x301 x302 x303 x304 x305 x306 x307 x308 x309 x310 x311 x312 x313 x314 x315 x316 x317 x318 x319 x320 x321 x322 x323 x324 x325 x326 x327 x328 x329 x330 x331 x332 x333 x334 x335 x336 x337 x338 x339 x340 x341 x342 x343 x344 x345 x346 x347 x348 x349 x350 x351 x352 x353 x354 x355 x356 x357 x358 x359 x360 x361 x362 x363 x364 x365 x366 x367 x368 : Value} (hn : (lwR l).length ≤ 733007751835) (hM : M ≤ 5864062014805) (hR0 : RSL w0 a0 (lwR l)) (hza : a0 = none → c0 = 0) (hcap : (lwR l).length ≤ c0) (hF0 : VS w0 fa M F0) (hz : fa = none → fc = 0) (hi64 : ∀ k, k < (lwR l).length → I64 ((lwR l).getD k rw0).object ∧ I64 ((lwR l).getD k rw0).entry) (hS : RSL X a7 (lwR l)) (hV : VS X a8 M F0) (hs : -1 ≤ s ∧ s < ((lwR l).length : Int)) (kX : Keeps (fun _ => False) w0 X) : (apT 6 Try.f5).wp Try.prog (bodyPost Try.prog Try.f5 (fun e w' => e = .returned (.bool true) ∧ Below w0.heap.size w0 w')) { tmps := #[.slice a0 (lwR l).length c0, .slice fa M fc, x2, x3, x4, x5, x6, .slice a7 (lwR l).length c7, .slice a8 M c8, .int .i64 s, x10, x11, x12, x13, x14, x15, x16, x17, x18, x19, x20, x21, x22, x23, x24, x25, x26, x27, x28, x29, x30, x31, x32, x33, x34, x35, x36, x37, x38, x39, x40, x41, x42, x43, x44, x45, x46, x47, x48, x49, x50, x51, x52, x53, x54, x55, x56, x57, x58, x59, x60, x61, x62, x63, x64, x65, x66, x67, x68, x69, x70, x71, x72, x73, x74, x75, x76, x77, x78, x79, x80, x81, x82, x83, x84, x85, x86, x87, x88, x89, x90, x91, x92, x93, x94, x95, x96, x97, x98, x99, x100, x101, x102, x103, x104, x105, x106, x107, x108, x109, x110, x111, x112, x113, x114, x115, x116, x117, x118, x119, x120, x121, x122, x123, x124, x125, x126, x127, x128, x129, x130, x131, x132, x133, x134, x135, x136, x137, x138, x139, x140, x141, x142, x143, x144, x145, x146, x147, x148, x149, x150, x151, x152, x153, x154, x155, x156, x157, x158, x159, x160, x161, x162, x163, x164, x165, x166, x167, x168, x169, x170, x171, x172, x173, x174, x175, x176, x177, x178, x179, x180, x181, x182, x183, x184, x185, x186, x187, x188, x189, x190, x191, x192, x193, x194, x195, x196, x197, x198, x199, x200, x201, x202, x203, x204, x205, x206, x207, x208, x209, x210, x211, x212, x213, x214, x215, x216, x217, x218, x219, x220, x221, x222, x223, x224, x225, x226, x227, x228, x229, x230, x231, x232, x233, x234, x235, x236, x237, x238, x239, x240, x241, x242, x243, x244, x245, x246, x247, x248, x249, x250, x251, x252, x253, x254, x255, x256, x257, x258, x259, x260, x261, x262, x263, x264, x265, x266, x267, x268, x269, x270, x271, x272, x273, x274, x275, x276, x277, x278, x279, x280, x281, x282, x283, x284, x285, x286, x287, x288, x289, x290, x291, x292, x293, x294, x295, x296, x297, x298, x299, x300, x301, x302, x303, x304, x305, x306, x307, x308, x309, x310, x311, x312, x313, x314, x315, x316, x317, x318, x319, x320, x321, x322, x323, x324, x325, x326, x327, x328, x329, x330, x331, x332, x333, x334, x335, x336, x337, x338, x339, x340, x341, x342, x343, x344, x345, x346, x347, x348, x349, x350, x351, x352, x353, x354, x355, x356, x357, x358, x359, x360, x361, x362, x363, x364, x365, x366, x367, x368], defers := [] } X := by
  cases hf : fstP (lwR l) 0 (f0 6) with
  | some i =>
    have hpa := at_no (cap := c0) (fa := fa) (n := M) (fc := fc) (s := s) (hR0.keep kX) (by omega) hf
    have HTX : Hid (∀ W, Keeps (fun _ => False) w0 W → Calls Try.prog 12 #[.slice a0 (lwR l).length c0] W fun e w' => e = .returned (.tuple #[.slice none 0 0, .int .i64 150]) ∧ Keeps (fun _ => False) W w') := fun W k => txs_no (hR0.keep k) (by omega) hf
    clear hf hR0 hza hcap hF0 hz hi64 hS hV hs
    generalize (lwR l).length = N at *
    have hnm := fun W => num_any W 150
    dsimp only [apT, seqTail, Try.f5]
    go_wp2_with (first | (go_at_call 11; refine hpa.mono ?_; clear hpa; rintro e w1 ⟨rfl, k1⟩; obtain ⟨v2, W2, hr2, ho2, k2⟩ := copy_v (W0 := w1) (ao := none) (n := 0) (F := fun _ => v30) 0 (fun i hi => absurd hi (Nat.not_lt_zero _)) (fun _ => rfl) (by omega); obtain ⟨a10, c10, rfl, -⟩ := own_slice ho2; clear ho2; have htx := HTX.out W2 ((kX.trans k1).trans k2); clear HTX) | (at_builtin; refine wpList_append_run rfl _ _ _ rfl _ _ _ W2 rfl rfl hr2 ?_; clear hr2) | (go_at_call 12; refine htx.mono ?_; clear htx; rintro e w3 ⟨rfl, k3⟩) | (go_at_call 13; refine (hnm _).mono ?_; rintro e w9 ⟨rfl, ew⟩; subst w9))
    go_ret
    exact ⟨rfl, (((kX.trans k1).trans k2).trans k3).below (Nat.le_refl _) (fun _ _ e => e)⟩
  | none =>
    have HPA : ∀ W, Keeps (fun _ => False) w0 W → Calls Try.prog 11 #[.slice fa M fc, .slice a0 (lwR l).length c0, .int .i64 s] W fun e w' => ∃ v, e = .returned (.tuple #[v, .int .i64 0]) ∧ w'.ownsRow W.heap.size 27 3 v M (gvl (fwK (lwR l) F0 (s + 1).toNat) M) ∧ Keeps (fun _ => False) W w' := fun W k => at_ok (hR0.keep k) (by omega) hcap hza hf hi64 hs (hF0.keep k) hz (by omega)
    have HTX : ∀ W, Keeps (fun _ => False) w0 W → Calls Try.prog 12 #[.slice a0 (lwR l).length c0] W fun e w' => ∃ base lv sv wv ρ, e = .returned (.tuple #[lv, .int .i64 0]) ∧ W.heap.size ≤ base ∧ TL base w' lv (txD (lwR l)) sv wv ρ (lwR l).length ∧ Keeps (fun _ => False) W w' := fun W k => txs_ok sortNone (hR0.keep k) (by omega) hf hi64
    have HPB : Hid (∀ W, Keeps (fun _ => False) w0 W → Calls Try.prog 11 #[.slice fa M fc, .slice a0 (lwR l).length c0, .int .i64 s] W fun e w' => ∃ v, e = .returned (.tuple #[v, .int .i64 0]) ∧ w'.ownsRow W.heap.size 27 3 v M (gvl (fwK (lwR l) F0 (s + 1).toNat) M) ∧ Keeps (fun _ => False) W w') := HPA
    have HTY : Hid (∀ W, Keeps (fun _ => False) w0 W → Calls Try.prog 12 #[.slice a0 (lwR l).length c0] W fun e w' => ∃ base lv sv wv ρ, e = .returned (.tuple #[lv, .int .i64 0]) ∧ W.heap.size ≤ base ∧ TL base w' lv (txD (lwR l)) sv wv ρ (lwR l).length ∧ Keeps (fun _ => False) W w') := HTX
    have HF1 : Hid (0 < (txD (lwR l)).length ∧ ((txD (lwR l)).getD 0 tv0).saws.length = 2 ∧ ((txD (lwR l)).getD 0 tv0).wrs.length = 1) := lw_first hf
    have HLE : Hid ((txD (lwR l)).length ≤ (lwR l).length) := by
      show _ ≤ _
      unfold txD
      rw [rlK_len]
      exact txK_le _ _
    have hpa := HPA X kX
    have HCO : Hid (RSL w0 a0 (lwR l) ∧ VS w0 fa M F0 ∧ RSL X a7 (lwR l) ∧ VS X a8 M F0) := ⟨hR0, hF0, hS, hV⟩
    clear HPA HTX hf hR0 hza hcap hF0 hz hi64 hS hV hs
    have HLW : Hid ((lwR l).length = (lwR l).length) := (rfl : _ = _)
    generalize hlw : lwR l = lw at *
    generalize fwK lw F0 (s + 1).toNat = G at *
    generalize txD lw = ts at *
    generalize hN : lw.length = N at *
    generalize hts : ts.length = n at *
    have hnm := fun W => num_any W 0
    dsimp only [apT, seqTail, Try.f5]
    refine wp_seq_k (fun KK hKK => ?_)
    have hKH : Hid _ := hKK
    clear hKK
    go_wp2_with (go_at_call 11; refine hpa.mono ?_; clear hpa; rintro e w1 ⟨v1, rfl, ho1, k1⟩; obtain ⟨a1, c1, rfl, hv1, hz1⟩ := vs_of ho1)
    refine hKH.out _ _ ?_
    clear hKH KK
    obtain ⟨v2, W2, hr2, ho2, k2⟩ := copy_v c1 hv1 hz1 (by omega)
    obtain ⟨a10, c10, rfl, hW, -⟩ := vs_of ho2
    clear ho1 ho2 hv1 hz1
    have HW : Hid (VS W2 a10 M G) := hW
    clear hW
    refine wp_seq_k (fun KK hKK => ?_)
    have hKH : Hid _ := hKK
    clear hKK
    go_wp2_with (at_builtin; refine wpList_append_run rfl _ _ _ rfl _ _ _ W2 rfl rfl hr2 ?_; clear hr2)
    refine hKH.out _ _ ?_
    clear hKH KK
    have htx := HTY.out W2 ((kX.trans k1).trans k2)
    have HTS : Hid (ts.length = n) := hts
    refine wp_seq_k (fun KK hKK => ?_)
    have hKH : Hid _ := hKK
    clear hKK
    go_wp2_with (go_at_call 12; refine htx.mono ?_; clear htx; rintro e w3 ⟨bl, lv, sl, wl, ρl, rfl, hbl, hTl, k3⟩; obtain ⟨al, cl, rfl⟩ := hTl.sln HTS.out)
    refine hKH.out _ _ ?_
    clear hKH KK
    have HTl : Hid (TL bl w3 (.slice al n cl) ts sl wl ρl N) := hTl
    clear hTl
    refine wp_seq_k (fun KK hKK => ?_)
    have hKH : Hid _ := hKK
    clear hKK
    go_wp2_with (go_at_call 13; refine (hnm _).mono ?_; rintro e w9 ⟨rfl, ew⟩; subst w9)
    refine hKH.out _ _ ?_
    clear hKH KK
    obtain ⟨hR0, hF0, hS, hV⟩ := HCO.out
    obtain ⟨f1, f2, f3⟩ := HF1.out
    have hT := HTl.out
    have K2 := k1.trans k2
    have KX2 := kX.trans K2
    exact ap_10 HPB.out HTY.out hN (by omega) (by omega) HTS.out HLE.out hM (hR0.keep KX2) (hS.keep K2) (hF0.keep KX2) (hV.keep K2) HW.out KX2 k3 (fun b e => ⟨Nat.le_trans hbl (owns_baseT hT.o b e), owns_lt' hT.o b e⟩) (fun i hi b e => ⟨Nat.le_trans hbl (owns_baseT (hT.s i (by rw [HTS.out]; exact hi)) b e), owns_lt' (hT.s i (by rw [HTS.out]; exact hi)) b e⟩) (fun i hi b e => ⟨Nat.le_trans hbl (owns_baseT (hT.w i (by rw [HTS.out]; exact hi)) b e), owns_lt' (hT.w i (by rw [HTS.out]; exact hi)) b e⟩) hT f1 f2 f3
end Go.Proofs.Ytmnmphkkcabkiaa

namespace Go.Proofs.Ytmnmphkkcabkiaa
open Go.RowKit
set_option maxHeartbeats 1000000 in
set_option maxRecDepth 100000 in
theorem ap_2 {w0 : World} {fa a0 : Option Addr} {M fc c0 : Nat} {s : Int} {l : List Rw} {F0 : Nat → V3} {x3 x4 x5 x6 x7 x8 x9 x10 x11 x12 x13 x14 x15 x16 x17 x18 x19 x20 x21 x22 x23 x24 x25 x26 x27 x28 x29 x30 x31 x32 x33 x34 x35 x36 x37 x38 x39 x40 x41 x42 x43 x44 x45 x46 x47 x48 x49 x50 x51 x52 x53 x54 x55 x56 x57 x58 x59 x60 x61 x62 x63 x64 x65 x66 x67 x68 x69 x70 x71 x72 x73 x74 x75 x76 x77 x78 x79 x80 x81 x82 x83 x84 x85 x86 x87 x88 x89 x90 x91 x92 x93 x94 x95 x96 x97 x98 x99 x100 x101 x102 x103 x104 x105 x106 x107 x108 x109 x110 x111 x112 x113 x114 x115 x116 x117 x118 x119 x120 x121 x122 x123 x124 x125 x126 x127 x128 x129 x130 x131 x132 x133 x134 x135 x136 x137 x138 x139 x140 x141 x142 x143 x144 x145 x146 x147 x148 x149 x150 x151 x152 x153 x154 x155 x156 x157 x158 x159 x160 x161 x162 x163 x164 x165 x166 x167 x168 x169 x170 x171 x172 x173 x174 x175 x176 x177 x178 x179 x180 x181 x182 x183 x184 x185 x186 x187 x188 x189 x190 x191 x192 x193 x194 x195 x196 x197 x198 x199 x200 x201 x202 x203 x204 x205 x206 x207 x208 x209 x210 x211 x212 x213 x214 x215 x216 x217 x218 x219 x220 x221 x222 x223 x224 x225 x226 x227 x228 x229 x230 x231 x232 x233 x234 x235 x236 x237 x238 x239 x240 x241 x242 x243 x244 x245 x246 x247 x248 x249 x250 x251 x252 x253 x254 x255 x256 x257 x258 x259 x260 x261 x262 x263 x264 x265 x266 x267 x268 x269 x270 x271 x272 x273 x274 x275 x276 x277 x278 x279 x280 x281 x282 x283 x284 x285 x286 x287 x288 x289 x290 x291 x292 x293 x294 x295 x296 x297 x298 x299 x300 x301 x302 x303 x304 x305 x306 x307 x308 x309 x310 x311 x312 x313 x314 x315 x316 x317 x318 x319 x320 x321 x322 x323 x324 x325 x326 x327 x328 x329 x330 x331 x332 x333 x334 x335 x336 x337 x338 x339 x340 x341 x342 x343 x344 x345 x346 x347 x348 x349 x350 x351 x352 x353 x354 x355 x356 x357 x358 x359 x360 x361 x362 x363 x364 x365 x366 x367 x368 : Value} (hn : (lwR l).length ≤ 733007751835) (hM : M ≤ 5864062014805) (hR0 : RSL w0 a0 (lwR l)) (hza : a0 = none → c0 = 0) (hcap : (lwR l).length ≤ c0) (hF0 : VS w0 fa M F0) (hz : fa = none → fc = 0) (hi64 : ∀ k, k < (lwR l).length → I64 ((lwR l).getD k rw0).object ∧ I64 ((lwR l).getD k rw0).entry) : (apT 2 Try.f5).wp Try.prog (bodyPost Try.prog Try.f5 (fun e w' => e = .returned (.bool true) ∧ Below w0.heap.size w0 w')) { tmps := #[.slice a0 (lwR l).length c0, .slice fa M fc, .int .i64 s, x3, x4, x5, x6, x7, x8, x9, x10, x11, x12, x13, x14, x15, x16, x17, x18, x19, x20, x21, x22, x23, x24, x25, x26, x27, x28, x29, x30, x31, x32, x33, x34, x35, x36, x37, x38, x39, x40, x41, x42, x43, x44, x45, x46, x47, x48, x49, x50, x51, x52, x53, x54, x55, x56, x57, x58, x59, x60, x61, x62, x63, x64, x65, x66, x67, x68, x69, x70, x71, x72, x73, x74, x75, x76, x77, x78, x79, x80, x81, x82, x83, x84, x85, x86, x87, x88, x89, x90, x91, x92, x93, x94, x95, x96, x97, x98, x99, x100, x101, x102, x103, x104, x105, x106, x107, x108, x109, x110, x111, x112, x113, x114, x115, x116, x117, x118, x119, x120, x121, x122, x123, x124, x125, x126, x127, x128, x129, x130, x131, x132, x133, x134, x135, x136, x137, x138, x139, x140, x141, x142, x143, x144, x145, x146, x147, x148, x149, x150, x151, x152, x153, x154, x155, x156, x157, x158, x159, x160, x161, x162, x163, x164, x165, x166, x167, x168, x169, x170, x171, x172, x173, x174, x175, x176, x177, x178, x179, x180, x181, x182, x183, x184, x185, x186, x187, x188, x189, x190, x191, x192, x193, x194, x195, x196, x197, x198, x199, x200, x201, x202, x203, x204, x205, x206, x207, x208, x209, x210, x211, x212, x213, x214, x215, x216, x217, x218, x219, x220, x221, x222, x223, x224, x225, x226, x227, x228, x229, x230, x231, x232, x233, x234, x235, x236, x237, x238, x239, x240, x241, x242, x243, x244, x245, x246, x247, x248, x249, x250, x251, x252, x253, x254, x255, x256, x257, x258, x259, x260, x261, x262, x263, x264, x265, x266, x267, x268, x269, x270, x271, x272, x273, x274, x275, x276, x277, x278, x279, x280, x281, x282, x283, x284, x285, x286, x287, x288, x289, x290, x291, x292, x293, x294, x295, x296, x297, x298, x299, x300, x301, x302, x303, x304, x305, x306, x307, x308, x309, x310, x311, x312, x313, x314, x315, x316, x317, x318, x319, x320, x321, x322, x323, x324, x325, x326, x327, x328, x329, x330, x331, x332, x333, x334, x335, x336, x337, x338, x339, x340, x341, x342, x343, x344, x345, x346, x347, x348, x349, x350, x351, x352, x353, x354, x355, x356, x357, x358, x359, x360, x361, x362, x363, x364, x365, x366, x367, x368], defers := [] } w0 := by
  have hC := copied_any (cap := c0) hR0 hza (by omega)
  have h6 := lwR_len l
  have HCP : Hid (∀ W, Keeps (fun _ => False) w0 W → ∃ a8 c8 W', (Builtin.append_ #[22, 22] 22 #[.slice (some ⟨W.heap.size, 0, none⟩) 0 0, .slice fa M fc]).run Try.prog (W.alloc (.cells #[] 27)) = .ok (.slice a8 M c8) W' ∧ Hid (VS W' a8 M F0) ∧ Keeps (fun _ => False) W W') := fun W k => by
    obtain ⟨v2, W2, hr2, ho2, k2⟩ := copy_v fc (hF0.keep k) hz (by omega)
    obtain ⟨a8, c8, rfl, hW, -⟩ := vs_of ho2
    exact ⟨a8, c8, W2, hr2, hW, k2⟩
  have HCO : Hid (RSL w0 a0 (lwR l) ∧ (a0 = none → c0 = 0) ∧ (lwR l).length ≤ c0 ∧ VS w0 fa M F0 ∧ (fa = none → fc = 0) ∧ (∀ k, k < (lwR l).length → I64 ((lwR l).getD k rw0).object ∧ I64 ((lwR l).getD k rw0).entry)) := ⟨hR0, hza, hcap, hF0, hz, hi64⟩
  have h6' : 6 ≤ (lwR l).length := by omega
  have HAP : Hid (∀ (N : Nat), N = (lwR l).length → N = (lwR l).length) := fun _ h => h
  clear hR0 hza hcap hF0 hz hi64 h6 HAP
  have HNN : Hid ((lwR l).length = (lwR l).length) := (rfl : _ = _)
  clear HNN
  generalize hN : (lwR l).length = N at *
  have HN : Hid ((lwR l).length = N) := hN
  clear hN
  dsimp only [apT, seqTail, Try.f5]
  refine wp_seq_k (fun KK hKK => ?_)
  have hKH : Hid _ := hKK
  clear hKK
  go_wp2_with (go_at_call 10; refine hC.mono ?_; clear hC; rintro e w1 ⟨a7, c7, rfl, hl7, k1⟩)
  refine hKH.out _ _ ?_
  clear hKH KK
  have HS : Hid (RSL w1 a7 (lwR l)) := hl7
  clear hl7
  obtain ⟨a8, c8, W2, hr2, HV, k2⟩ := HCP.out w1 k1
  clear HCP
  refine wp_seq_k (fun KK hKK => ?_)
  have hKH : Hid _ := hKK
  clear hKK
  go_wp2_with (at_builtin; refine wpList_append_run rfl _ _ _ rfl _ _ _ W2 rfl rfl hr2 ?_; clear hr2)
  refine hKH.out _ _ ?_
  clear hKH KK
  refine wp_seq_k (fun KK hKK => ?_)
  have hKH : Hid _ := hKK
  clear hKK
  go_wp2_with fail
  refine hKH.out _ _ ?_
  clear hKH KK
  have hn' := hn
  obtain ⟨hR0, hza, hcap, hF0, hz, hi64⟩ := HCO.out
  obtain rfl := HN.out
  by_cases h1 : s < -1
  · have d1 : decide (s < -1) = true := decide_eq_true h1
    have HX : Hid (RSL w0 a0 (lwR l) ∧ (a0 = none → c0 = 0) ∧ (lwR l).length ≤ c0 ∧ VS w0 fa M F0 ∧ (fa = none → fc = 0) ∧ (∀ k, k < (lwR l).length → I64 ((lwR l).getD k rw0).object ∧ I64 ((lwR l).getD k rw0).entry)) := HCO.out
    clear hR0 hza hcap hF0 hz hi64
    refine wp_seq_k (fun KK hKK => ?_)
    have hKH : Hid _ := hKK
    clear hKK
    go_wp2_with fail
    refine hKH.out _ _ ?_
    obtain ⟨hR0, hza, hcap, hF0, hz, hi64⟩ := HX.out
    exact ap_6 hn' hM hR0 hza hcap hF0 hz hi64 (HS.out.keep k2) HV.out (by omega) (k1.trans k2)
  · have d1 : decide (s < -1) = false := decide_eq_false h1
    by_cases h2 : ((lwR l).length : Int) ≤ s
    · have d2 : decide (((lwR l).length : Int) ≤ s) = true := decide_eq_true h2
      have HX : Hid (RSL w0 a0 (lwR l) ∧ (a0 = none → c0 = 0) ∧ (lwR l).length ≤ c0 ∧ VS w0 fa M F0 ∧ (fa = none → fc = 0) ∧ (∀ k, k < (lwR l).length → I64 ((lwR l).getD k rw0).object ∧ I64 ((lwR l).getD k rw0).entry)) := HCO.out
      clear hR0 hza hcap hF0 hz hi64
      refine wp_seq_k (fun KK hKK => ?_)
      have hKH : Hid _ := hKK
      clear hKK
      go_wp2_with fail
      refine hKH.out _ _ ?_
      obtain ⟨hR0, hza, hcap, hF0, hz, hi64⟩ := HX.out
      exact ap_6 hn' hM hR0 hza hcap hF0 hz hi64 (HS.out.keep k2) HV.out (by omega) (k1.trans k2)
    · have d2 : decide (((lwR l).length : Int) ≤ s) = false := decide_eq_false h2
      have HX : Hid (RSL w0 a0 (lwR l) ∧ (a0 = none → c0 = 0) ∧ (lwR l).length ≤ c0 ∧ VS w0 fa M F0 ∧ (fa = none → fc = 0) ∧ (∀ k, k < (lwR l).length → I64 ((lwR l).getD k rw0).object ∧ I64 ((lwR l).getD k rw0).entry)) := HCO.out
      clear hR0 hza hcap hF0 hz hi64
      refine wp_seq_k (fun KK hKK => ?_)
      have hKH : Hid _ := hKK
      clear hKK
      go_wp2_with fail
      refine hKH.out _ _ ?_
      obtain ⟨hR0, hza, hcap, hF0, hz, hi64⟩ := HX.out
      exact ap_6 hn' hM hR0 hza hcap hF0 hz hi64 (HS.out.keep k2) HV.out (by omega) (k1.trans k2)
theorem lw64 {l : List Rw} (h64 : ∀ q ∈ l, R64 q) : ∀ k, k < (lwR l).length → I64 ((lwR l).getD k rw0).object ∧ I64 ((lwR l).getD k rw0).entry := fun k hk => by
  have e : (lwR l).getD k rw0 = (lwR l)[k] := by rw [List.getD_eq_getElem?_getD, List.getElem?_eq_getElem hk]; rfl
  rw [e]
  have hm : (lwR l)[k] ∈ lwR l := List.getElem_mem hk
  rcases List.mem_append.1 (show _ ∈ lifeL ++ l.map mv6 from hm) with h | h
  · exact ⟨(life64 _ h).o, (life64 _ h).e⟩
  · obtain ⟨q, hq, eq⟩ := List.mem_map.1 h
    rw [← eq]
    exact ⟨(h64 q hq).o, (h64 q hq).e⟩
theorem below_pre {B : Nat} {w w1 w' : World} (hk : Keeps (fun _ => False) w w1) (h : Below w1.heap.size w1 w') (hB : B ≤ w.heap.size) : Below B w w' := by
  have hs := hk.size
  exact ((hk.below hB (fun _ _ e => e)).trans (h.mono (by omega)))
set_option maxHeartbeats 1000000 in
set_option maxRecDepth 100000 in
theorem hap_any {w : World} {fa a : Option Addr} {M fc cap : Nat} {s : Int} {l : List Rw} {F0 : Nat → V3} (hv : VS w fa M F0) (hM : M ≤ 5864062014805) (hz : fa = none → fc = 0) (hl : RSL w a l) (h64 : ∀ q ∈ l, R64 q) (hn : l.length ≤ 733007751829) :
    Calls Try.prog 5 #[.slice a l.length cap, .slice fa M fc, .int .i64 s] w fun e w' => e = .returned (.bool true) ∧ Below w.heap.size w w' := by
  have hlf := life_any6 w
  have h64' := lw64 h64
  have HMV : Hid (∀ W, Keeps (fun _ => False) w W → Calls Try.prog 9 #[.slice a l.length cap] W fun e w' => ∃ v, e = .returned v ∧ w'.ownsRow W.heap.size 50 26 v l.length (rcl (l.map mv6)) ∧ Keeps (fun _ => False) W w') := fun W k => moved_any (hl.keep k) (by omega)
  have HJ : Hid (∀ W a6 base v, RSL W a6 lifeL → W.ownsRow base 50 26 v l.length (rcl (l.map mv6)) → ∃ a' c' W', (Builtin.append_ #[23, 23] 23 #[.slice a6 6 6, v]).run Try.prog W = .ok (.slice a' (lwR l).length c') W' ∧ Hid (RSL W' a' (lwR l) ∧ (a' = none → c' = 0) ∧ (lwR l).length ≤ c') ∧ Keeps (fun _ => False) W W') := fun W a6 base v h1 h2 => by
    obtain ⟨a', c', W', q1, q2, q3, q4, q5⟩ := join_any h1 h2 (by omega)
    rw [lwR_len]
    exact ⟨a', c', W', q1, ⟨q2, q3, q4⟩, q5⟩
  have HV : Hid (VS w fa M F0) := hv
  have HI : Hid (∀ k, k < (lwR l).length → I64 ((lwR l).getD k rw0).object ∧ I64 ((lwR l).getD k rw0).entry) := h64'
  have hlen : (lwR l).length ≤ 733007751835 := by rw [lwR_len]; omega
  have HZ : Hid (fa = none → fc = 0) := hz
  clear h64 h64' hv hl hn hz
  generalize hm : l.map mv6 = ml at HMV HJ
  clear hm
  generalize l.length = N at *
  go_enter Try.func5, Try.ntmps5
  refine wp_seq_k (fun KK hKK => ?_)
  have hKH : Hid _ := hKK
  clear hKK
  go_wp2_with fail
  refine hKH.out _ _ ?_
  clear hKH KK
  refine wp_seq_k (fun KK hKK => ?_)
  have hKH : Hid _ := hKK
  clear hKK
  go_wp2_with (first | (go_at_call 7; refine hlf.mono ?_; clear hlf; rintro e w1 ⟨l2, a2, c2, rfl, ⟨hl6, hl7, hl8⟩, hr2, hz2, k1⟩; subst hl7 hl8; have hmv := HMV.out w1 k1; clear HMV hz2; have HR2 : Hid (RSL w1 a2 lifeL) := hr2; clear hr2; (try rw [hl6])) | (go_at_call 9; refine hmv.mono ?_; clear hmv; rintro e w2 ⟨v2, rfl, ho2, k2⟩; obtain ⟨a3, c3, W3, hr3, HR3, k3⟩ := HJ.out w2 a2 _ v2 (HR2.out.keep k2) ho2; clear HJ ho2) | (at_builtin; refine wpList_append_run rfl _ _ _ rfl _ _ _ W3 rfl rfl hr3 ?_; clear hr3))
  refine hKH.out _ _ ?_
  clear hKH KK
  have K3 := (k1.trans k2).trans k3
  obtain ⟨q1, q2, q3⟩ := HR3.out
  refine Code.wp_mono (fun e a w' h => bodyPost_to h (fun e w' h => ⟨h.1, below_pre K3 h.2 (Nat.le_refl _)⟩)) (ap_2 (w0 := W3) hlen hM q1 q2 q3 (HV.out.keep K3) HZ.out HI.out)
end Go.Proofs.Ytmnmphkkcabkiaa

namespace Go.Proofs.Ytmnmphkkcabkiaa
open Go.RowKit
theorem hap_all {w : World} {fa a : Option Addr} {M fc cap : Nat} {l : List Rw} {F0 : Nat → V3} (hl : RSL w a l) (h64 : ∀ q ∈ l, R64 q) (hn : l.length ≤ 733007751829) (_ : a = none → cap = 0) (hv : VS w fa M F0) (hM : M ≤ 5864062014805) (hz : fa = none → fc = 0) (s : Int) (_ : I64 s) :
    Calls Try.prog 5 #[.slice a l.length cap, .slice fa M fc, .int .i64 s] w fun e w' => e = .returned (.bool true) ∧ Below w.heap.size w w' := hap_any hv hM hz hl h64 hn
end Go.Proofs.Ytmnmphkkcabkiaa

