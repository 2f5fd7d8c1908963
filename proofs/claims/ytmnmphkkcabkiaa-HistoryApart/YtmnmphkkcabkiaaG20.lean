import Derived.Test.YtmnmphkkcabkiaaG19
import Derived.ArgAppend
import Derived.Deep.Upon
namespace Go.Proofs.Ytmnmphkkcabkiaa
open Go.RowKit
attribute [local go_sem] Oper.semAt_some run_store_nf run_store_f
theorem tsF_all {ts : List Tv} {n : Nat} (h : ts.length = n) : tsF (fun i => ts.getD i tv0) n = ts := by
  subst h
  unfold tsF
  refine List.ext_getElem? (fun j => ?_)
  rw [List.getElem?_map]
  by_cases hj : j < ts.length
  · rw [List.getElem?_range hj, List.getElem?_eq_getElem hj]
    show some (ts.getD j tv0) = _
    rw [List.getD_eq_getElem?_getD, List.getElem?_eq_getElem hj]
    rfl
  · rw [List.getElem?_eq_none (by simpa using hj), List.getElem?_eq_none (by omega)]
    rfl
theorem run_store_sl {w : World} {b o : Nat} {ty : TypeId} (ht : ty = 39 ∨ ty = 40) (hc : (w.cell? ⟨b, o, none⟩).isSome = true) (hz : w.frozen? ⟨b, o, none⟩ = false) (a : Option Addr) (n c : Nat) : (storeVar ty ⟨b, o, none⟩ (.slice a n c)).run Try.prog w = .ok () (w.setCell ⟨b, o, none⟩ (.slice a n c)) := by
  obtain ⟨u, hu⟩ := Option.isSome_iff_exists.1 hc
  rcases ht with rfl | rfl <;> go_simp
theorem wpList_store_s1 {w : World} {ops : Array Oper} {rest : List Oper} {o : Oper} {a : Act} {Q : Exit → Act → World → Prop} (hgd : o.guard = none) (hd : o.dst = none) (ty : TypeId) (ht : ty = 39 ∨ ty = 40) (x y : Operand) (ho : o.op = .store ty x y) (b off : Nat) (hx : a.eval x = .pointer (some ⟨b, off, none⟩)) (sa : Option Addr) (sn sc : Nat) (hy : a.eval y = .slice sa sn sc)
    {l : List Value} (hB : CL w b l) (hl : off < l.length) (h : ∀ w1, CL w1 b (l.set off (.slice sa sn sc)) → Keeps (fun k => k = b) w w1 → w1.heap.size = w.heap.size → wpList Try.prog ops Q rest a w1) : wpList Try.prog ops Q (o :: rest) a w :=
  wpList_plain hgd fun _ hK => by
    unfold Oper.wp execOp
    simp only [ho, hx, hy, Instr.storeAt, Instr.sureAddr, Sem.run_bind, Sem.run_pure, Result.andThen_ok, run_store_sl ht (by rw [hB.c off _ (List.getElem?_eq_getElem hl)]; rfl) (hB.z off hl) sa sn sc]
    refine hK _ _ ?_
    rw [hd]
    exact (h _ (hB.set hl _) ((Keeps.refl (fun k => k = b) w).setCell (p := ⟨b, off, none⟩) (fun _ => rfl) _) (by simp))
set_option maxHeartbeats 600000 in
set_option maxRecDepth 100000 in
theorem ap_A2 {w0 : World} {fa a0 : Option Addr} {N n fc c0 M m : Nat} {s : Int} {lw : List Rw} {ts : List Tv} {F0 G : Nat → V3} {w8 X : World} {a7 a8 a10 al ak : Option Addr} {c7 c8 c10 cl ck bl bk El : Nat} {sl wl sk wk : Nat → Value} {ρl ρk : Nat → Nat} {x2 x3 x4 x5 x6 x11 x13 x15 x16 x17 x18 x19 x20 x21 x22 x23 x24 x25 x26 x27 x28 x29 x30 x31 x32 x33 x34 x35 x36 x37 x38 x39 x40 x41 x42 x43 x44 x45 x46 x47 x48 x49 x50 x51 x52 x53 x54 x55 x56 x57 x58 x59 x60 x61 x62 x63 x64 x65 x66 x67 x68 x69 x70 x71 x72 x73 x74 x75 x76 x77 x78 x79 x80 x81 x82 x83 x84 x85 x86 x87 x88 x89 x90 x91 x92 x93 x94 x95 x96 x97 x98 x99 x100 x101 x102 x103 x104 x105 x106 x107 x108 x109 x110 x111 x112 x113 x114 x115 x116 x117 x118 x119 x120 x121 x122 x123 x124 x125 x126 x127 x128 x129 x130 x131 x132 x133 x134 x135 x136 x137 x138 x139 x140 x141 x142 x143 x144 x145 x146 x147 x148 x149 x150 x151 x152 x153 x154 x155 x156 x157 x158 x159 x160 x161 x162 x163 x164 x165 x166 x167 x168 x169 x170 x171 x172 x173 x174 x175 x176 x177 x178 x179 x180 x181 x182 x183 x184 x185 x186 x187 x188 x189 x190 x191 x192 x193 x194 x195 x196 x197 x198 x199 x200 x201 x202 x203 x204 x205 x206 x207 x208 x209 x210 x211 x212 x213 x214 x215 x216 x217 x218 x219 x220 x221 x222 x223 x224 x225 x226 x227 x228 x229 x230 x231 x232 x233 x234 x235 x236 x237 x238 x239 x240 x241 x242 x243 x244 x245 x246 x247 x248 x249 x250 x251 x252 x253 x254 x255 x256 x257 x258 x259 x260 x261 x262 x263 x264 x265 x266 x267 x268 x269 x270 x271 x272 x273 x274 x275 x276 x277 x278 x279 x280 x281 x282 x283 x284 x285 x286 x287 x288 x289 x290 x291 x292 x293 x294 x295 x296 x297 x298 x299 x300 x301 x302 x303 x304 x305 x306 x307 x308 x309 x310 x311 x312 x313 x314 x315 x316 x317 x318 x319 x320 x321 x322 x323 x324 x325 x326 x327 x328 x329 x330 x331 x332 x333 x334 x335 x336 x337 x338 x339 x340 x341 x342 x343 x344 x345 x346 x347 x348 x349 x350 x351 x352 x353 x354 x355 x356 x357 x358 x359 x360 x361 x362 x363 x364 x365 x366 x367 x368 : Value} (HPA : ∀ W, Keeps (fun _ => False) w0 W → Calls Try.prog 11 #[.slice fa M fc, .slice a0 N c0, .int .i64 s] W fun e w' => ∃ v, e = .returned (.tuple #[v, .int .i64 0]) ∧ w'.ownsRow W.heap.size 27 3 v M (gvl G M) ∧ Keeps (fun _ => False) W w') (HTX : ∀ W, Keeps (fun _ => False) w0 W → Calls Try.prog 12 #[.slice a0 N c0] W fun e w' => ∃ base lv sv wv ρ, e = .returned (.tuple #[lv, .int .i64 0]) ∧ W.heap.size ≤ base ∧ TL base w' lv ts sv wv ρ m ∧ Keeps (fun _ => False) W w') (hN : lw.length = N) (hn : N ≤ 980000000000) (hm : m ≤ 980000000000) (hts : ts.length = n) (hnN : n ≤ N) (hM : M ≤ 5864062014805) (hR : RSL w8 a0 lw) (hS : RSL w8 a7 lw) (hF : VS w8 fa M F0) (hV : VS w8 a8 M F0) (hW : VS w8 a10 M G) (k0 : Keeps (fun _ => False) w0 w8) (kX : Keeps (fun _ => False) w8 X) (hb0 : ∀ b, (Value.slice al n cl).ownBlock = some b → w8.heap.size ≤ b ∧ b < El) (hb1 : ∀ i, i < n → ∀ b, (sl i).ownBlock = some b → w8.heap.size ≤ b ∧ b < El) (hb2 : ∀ i, i < n → ∀ b, (wl i).ownBlock = some b → w8.heap.size ≤ b ∧ b < El) (hbk : El ≤ bk) (hEl : El ≤ X.heap.size) (hk : TL bk X (.slice ak n ck) ts sk wk ρk m) (hl : TL bl X (.slice al n cl) ts sl wl ρl m) : (apT 13 Try.f5).wp Try.prog (bodyPost Try.prog Try.f5 (fun e w' => e = .returned (.bool true) ∧ Below w0.heap.size w0 w')) { tmps := #[.slice a0 N c0, .slice fa M fc, x2, x3, x4, x5, x6, .slice a7 N c7, .slice a8 M c8, .int .i64 s, .slice a10 M c10, x11, .slice al n cl, x13, .slice ak n ck, x15, x16, x17, x18, x19, x20, x21, x22, x23, x24, x25, x26, x27, x28, x29, x30, x31, x32, x33, x34, x35, x36, x37, x38, x39, x40, x41, x42, x43, x44, x45, x46, x47, x48, x49, x50, x51, x52, x53, x54, x55, x56, x57, x58, x59, x60, x61, x62, x63, x64, x65, x66, x67, x68, x69, x70, x71, x72, x73, x74, x75, x76, x77, x78, x79, x80, x81, x82, x83, x84, x85, x86, x87, x88, x89, x90, x91, x92, x93, x94, x95, x96, x97, x98, x99, x100, x101, x102, x103, x104, x105, x106, x107, x108, x109, x110, x111, x112, x113, x114, x115, x116, x117, x118, x119, x120, x121, x122, x123, x124, x125, x126, x127, x128, x129, x130, x131, x132, x133, x134, x135, x136, x137, x138, x139, x140, x141, x142, x143, x144, x145, x146, x147, x148, x149, x150, x151, x152, x153, x154, x155, x156, x157, x158, x159, x160, x161, x162, x163, x164, x165, x166, x167, x168, x169, x170, x171, x172, x173, x174, x175, x176, x177, x178, x179, x180, x181, x182, x183, x184, x185, x186, x187, x188, x189, x190, x191, x192, x193, x194, x195, x196, x197, x198, x199, x200, x201, x202, x203, x204, x205, x206, x207, x208, x209, x210, x211, x212, x213, x214, x215, x216, x217, x218, x219, x220, x221, x222, x223, x224, x225, x226, x227, x228, x229, x230, x231, x232, x233, x234, x235, x236, x237, x238, x239, x240, x241, x242, x243, x244, x245, x246, x247, x248, x249, x250, x251, x252, x253, x254, x255, x256, x257, x258, x259, x260, x261, x262, x263, x264, x265, x266, x267, x268, x269, x270, x271, x272, x273, x274, x275, x276, x277, x278, x279, x280, x281, x282, x283, x284, x285, x286, x287, x288, x289, x290, x291, x292, x293, x294, x295, x296, x297, x298, x299, x300, x301, x302, x303, x304, x305, x306, x307, x308, x309, x310, x311, x312, x313, x314, x315, x316, x317, x318, x319, x320, x321, x322, x323, x324, x325, x326, x327, x328, x329, x330, x331, x332, x333, x334, x335, x336, x337, x338, x339, x340, x341, x342, x343, x344, x345, x346, x347, x348, x349, x350, x351, x352, x353, x354, x355, x356, x357, x358, x359, x360, x361, x362, x363, x364, x365, x366, x367, x368], defers := [] } X := by
  have htx := HTX X (k0.trans kX)
  have HPB : Hid (∀ W, Keeps (fun _ => False) w0 W → Calls Try.prog 11 #[.slice fa M fc, .slice a0 N c0, .int .i64 s] W fun e w' => ∃ v, e = .returned (.tuple #[v, .int .i64 0]) ∧ w'.ownsRow W.heap.size 27 3 v M (gvl G M) ∧ Keeps (fun _ => False) W w') := HPA
  have HTY : Hid (∀ W, Keeps (fun _ => False) w0 W → Calls Try.prog 12 #[.slice a0 N c0] W fun e w' => ∃ base lv sv wv ρ, e = .returned (.tuple #[lv, .int .i64 0]) ∧ W.heap.size ≤ base ∧ TL base w' lv ts sv wv ρ m ∧ Keeps (fun _ => False) W w') := HTX
  have HK : Hid (TL bk X (.slice ak n ck) ts sk wk ρk m) := hk
  have HL : Hid (TL bl X (.slice al n cl) ts sl wl ρl m) := hl
  have HCO : Hid ((lw.length = N) ∧ (ts.length = n) ∧ RSL w8 a0 lw ∧ RSL w8 a7 lw ∧ VS w8 fa M F0 ∧ VS w8 a8 M F0 ∧ VS w8 a10 M G ∧ Keeps (fun _ => False) w0 w8 ∧ Keeps (fun _ => False) w8 X) := ⟨hN, hts, hR, hS, hF, hV, hW, k0, kX⟩
  have HLB : Hid ((∀ b, (Value.slice al n cl).ownBlock = some b → w8.heap.size ≤ b ∧ b < El) ∧ (∀ i, i < n → ∀ b, (sl i).ownBlock = some b → w8.heap.size ≤ b ∧ b < El) ∧ (∀ i, i < n → ∀ b, (wl i).ownBlock = some b → w8.heap.size ≤ b ∧ b < El)) := ⟨hb0, hb1, hb2⟩
  have HTS : Hid (ts.length = n) := hts
  clear hk hl HPA HTX hN hts hR hS hF hV hW k0 kX hb0 hb1 hb2
  dsimp only [apT, seqTail, Try.f5]
  refine wp_seq_k (fun KK hKK => ?_)
  have hKH : Hid _ := hKK
  clear hKK
  go_wp2_with (go_at_call 12; refine htx.mono ?_; clear htx; rintro e w2 ⟨bm, lv, sm, wm, ρm, rfl, hbm, hTm, k2⟩; obtain ⟨am, cm, rfl⟩ := hTm.sln HTS.out)
  refine hKH.out _ _ ?_
  obtain ⟨hN, hts, hR, hS, hF, hV, hW, k0, kX⟩ := HCO.out
  obtain ⟨lb0, lb1, lb2⟩ := HLB.out
  exact ap_B (g0 := fun i => ts.getD i tv0) HPB.out HTY.out hN hn hm hts hnN hM hR hS hF hV hW k0 (kX.trans k2) lb0 lb1 lb2 hbk (Nat.le_trans hEl hbm) (HK.out.keep k2) hTm (by rw [tsF_all hts]; exact HL.out.keep k2)
set_option maxHeartbeats 600000 in
set_option maxRecDepth 100000 in
theorem ap_A {w0 : World} {fa a0 : Option Addr} {N n fc c0 M m : Nat} {s : Int} {lw : List Rw} {ts : List Tv} {F0 G : Nat → V3} {w8 X : World} {a7 a8 a10 al : Option Addr} {c7 c8 c10 cl bl : Nat} {sl wl : Nat → Value} {ρl : Nat → Nat} {x2 x3 x4 x5 x6 x11 x13 x15 x16 x17 x18 x19 x20 x21 x22 x23 x24 x25 x26 x27 x28 x29 x30 x31 x32 x33 x34 x35 x36 x37 x38 x39 x40 x41 x42 x43 x44 x45 x46 x47 x48 x49 x50 x51 x52 x53 x54 x55 x56 x57 x58 x59 x60 x61 x62 x63 x64 x65 x66 x67 x68 x69 x70 x71 x72 x73 x74 x75 x76 x77 x78 x79 x80 x81 x82 x83 x84 x85 x86 x87 x88 x89 x90 x91 x92 x93 x94 x95 x96 x97 x98 x99 x100 x101 x102 x103 x104 x105 x106 x107 x108 x109 x110 x111 x112 x113 x114 x115 x116 x117 x118 x119 x120 x121 x122 x123 x124 x125 x126 x127 x128 x129 x130 x131 x132 x133 x134 x135 x136 x137 x138 x139 x140 x141 x142 x143 x144 x145 x146 x147 x148 x149 x150 x151 x152 x153 x154 x155 x156 x157 x158 x159 x160 x161 x162 x163 x164 x165 x166 x167 x168 x169 x170 x171 x172 x173 x174 x175 x176 x177 x178 x179 x180 x181 x182 x183 x184 x185 x186 x187 x188 x189 x190 x191 x192 x193 x194 x195 x196 x197 x198 x199 x200 x201 x202 x203 x204 x205 x206 x207 x208 x209 x210 x211 x212 x213 x214 x215 x216 x217 x218 x219 x220 x221 x222 x223 x224 x225 x226 x227 x228 x229 x230 x231 x232 x233 x234 x235 x236 x237 x238 x239 x240 x241 x242 x243 x244 x245 x246 x247 x248 x249 x250 x251 x252 x253 x254 x255 x256 x257 x258 x259 x260 x261 x262 x263 x264 x265 x266 x267 x268 x269 x270 x271 x272 x273 x274 x275 x276 x277 x278 x279 x280 x281 x282 x283 x284 x285 x286 x287 x288 x289 x290 x291 x292 x293 x294 x295 x296 x297 x298 x299 x300 x301 x302 x303 x304 x305 x306 x307 x308 x309 x310 x311 x312 x313 x314 x315 x316 x317 x318 x319 x320 x321 x322 x323 x324 x325 x326 x327 x328 x329 x330 x331 x332 x333 x334 x335 x336 x337 x338 x339 x340 x341 x342 x343 x344 x345 x346 x347 x348 x349 x350 x351 x352 x353 x354 x355 x356 x357 x358 x359 x360 x361 x362 x363 x364 x365 x366 x367 x368 : Value} (HPA : ∀ W, Keeps (fun _ => False) w0 W → Calls Try.prog 11 #[.slice fa M fc, .slice a0 N c0, .int .i64 s] W fun e w' => ∃ v, e = .returned (.tuple #[v, .int .i64 0]) ∧ w'.ownsRow W.heap.size 27 3 v M (gvl G M) ∧ Keeps (fun _ => False) W w') (HTX : ∀ W, Keeps (fun _ => False) w0 W → Calls Try.prog 12 #[.slice a0 N c0] W fun e w' => ∃ base lv sv wv ρ, e = .returned (.tuple #[lv, .int .i64 0]) ∧ W.heap.size ≤ base ∧ TL base w' lv ts sv wv ρ m ∧ Keeps (fun _ => False) W w') (hN : lw.length = N) (hn : N ≤ 980000000000) (hm : m ≤ 980000000000) (hts : ts.length = n) (hnN : n ≤ N) (hM : M ≤ 5864062014805) (hR : RSL w8 a0 lw) (hS : RSL w8 a7 lw) (hF : VS w8 fa M F0) (hV : VS w8 a8 M F0) (hW : VS w8 a10 M G) (k0 : Keeps (fun _ => False) w0 w8) (kX : Keeps (fun _ => False) w8 X) (hb0 : ∀ b, (Value.slice al n cl).ownBlock = some b → w8.heap.size ≤ b ∧ b < X.heap.size) (hb1 : ∀ i, i < n → ∀ b, (sl i).ownBlock = some b → w8.heap.size ≤ b ∧ b < X.heap.size) (hb2 : ∀ i, i < n → ∀ b, (wl i).ownBlock = some b → w8.heap.size ≤ b ∧ b < X.heap.size) (hl : TL bl X (.slice al n cl) ts sl wl ρl m) : (apT 12 Try.f5).wp Try.prog (bodyPost Try.prog Try.f5 (fun e w' => e = .returned (.bool true) ∧ Below w0.heap.size w0 w')) { tmps := #[.slice a0 N c0, .slice fa M fc, x2, x3, x4, x5, x6, .slice a7 N c7, .slice a8 M c8, .int .i64 s, .slice a10 M c10, x11, .slice al n cl, x13, .slice none 0 0, x15, x16, x17, x18, x19, x20, x21, x22, x23, x24, x25, x26, x27, x28, x29, x30, x31, x32, x33, x34, x35, x36, x37, x38, x39, x40, x41, x42, x43, x44, x45, x46, x47, x48, x49, x50, x51, x52, x53, x54, x55, x56, x57, x58, x59, x60, x61, x62, x63, x64, x65, x66, x67, x68, x69, x70, x71, x72, x73, x74, x75, x76, x77, x78, x79, x80, x81, x82, x83, x84, x85, x86, x87, x88, x89, x90, x91, x92, x93, x94, x95, x96, x97, x98, x99, x100, x101, x102, x103, x104, x105, x106, x107, x108, x109, x110, x111, x112, x113, x114, x115, x116, x117, x118, x119, x120, x121, x122, x123, x124, x125, x126, x127, x128, x129, x130, x131, x132, x133, x134, x135, x136, x137, x138, x139, x140, x141, x142, x143, x144, x145, x146, x147, x148, x149, x150, x151, x152, x153, x154, x155, x156, x157, x158, x159, x160, x161, x162, x163, x164, x165, x166, x167, x168, x169, x170, x171, x172, x173, x174, x175, x176, x177, x178, x179, x180, x181, x182, x183, x184, x185, x186, x187, x188, x189, x190, x191, x192, x193, x194, x195, x196, x197, x198, x199, x200, x201, x202, x203, x204, x205, x206, x207, x208, x209, x210, x211, x212, x213, x214, x215, x216, x217, x218, x219, x220, x221, x222, x223, x224, x225, x226, x227, x228, x229, x230, x231, x232, x233, x234, x235, x236, x237, x238, x239, x240, x241, x242, x243, x244, x245, x246, x247, x248, x249, x250, x251, x252, x253, x254, x255, x256, x257, x258, x259, x260, x261, x262, x263, x264, x265, x266, x267, x268, x269, x270, x271, x272, x273, x274, x275, x276, x277, x278, x279, x280, x281, x282, x283, x284, x285, x286, x287, x288, x289, x290, x291, x292, x293, x294, x295, x296, x297, x298, x299, x300, x301, x302, x303, x304, x305, x306, x307, x308, x309, x310, x311, x312, x313, x314, x315, x316, x317, x318, x319, x320, x321, x322, x323, x324, x325, x326, x327, x328, x329, x330, x331, x332, x333, x334, x335, x336, x337, x338, x339, x340, x341, x342, x343, x344, x345, x346, x347, x348, x349, x350, x351, x352, x353, x354, x355, x356, x357, x358, x359, x360, x361, x362, x363, x364, x365, x366, x367, x368], defers := [] } X := by
  have HPB : Hid (∀ W, Keeps (fun _ => False) w0 W → Calls Try.prog 11 #[.slice fa M fc, .slice a0 N c0, .int .i64 s] W fun e w' => ∃ v, e = .returned (.tuple #[v, .int .i64 0]) ∧ w'.ownsRow W.heap.size 27 3 v M (gvl G M) ∧ Keeps (fun _ => False) W w') := HPA
  have HTY : Hid (∀ W, Keeps (fun _ => False) w0 W → Calls Try.prog 12 #[.slice a0 N c0] W fun e w' => ∃ base lv sv wv ρ, e = .returned (.tuple #[lv, .int .i64 0]) ∧ W.heap.size ≤ base ∧ TL base w' lv ts sv wv ρ m ∧ Keeps (fun _ => False) W w') := HTX
  have HL : Hid (TL bl X (.slice al n cl) ts sl wl ρl m) := hl
  have HCO : Hid ((lw.length = N) ∧ (ts.length = n) ∧ RSL w8 a0 lw ∧ RSL w8 a7 lw ∧ VS w8 fa M F0 ∧ VS w8 a8 M F0 ∧ VS w8 a10 M G ∧ Keeps (fun _ => False) w0 w8 ∧ Keeps (fun _ => False) w8 X) := ⟨hN, hts, hR, hS, hF, hV, hW, k0, kX⟩
  have HLB : Hid ((∀ b, (Value.slice al n cl).ownBlock = some b → w8.heap.size ≤ b ∧ b < X.heap.size) ∧ (∀ i, i < n → ∀ b, (sl i).ownBlock = some b → w8.heap.size ≤ b ∧ b < X.heap.size) ∧ (∀ i, i < n → ∀ b, (wl i).ownBlock = some b → w8.heap.size ≤ b ∧ b < X.heap.size)) := ⟨hb0, hb1, hb2⟩
  have HTS : Hid (ts.length = n) := hts
  clear hl HPA HTX hN hts hR hS hF hV hW k0 kX hb0 hb1 hb2
  dsimp only [apT, seqTail, Try.f5]
  refine wp_seq_k (fun KK hKK => ?_)
  have hKH : Hid _ := hKK
  clear hKK
  go_wp2_with fail
  go_loopw [14, 15, 16] (fun kv iv _ Wr => ∃ (i : Nat) (sv wv : Nat → Value) (ρ : Nat → Nat), iv = .int .i64 (i : Int) ∧ i ≤ n ∧ TL X.heap.size Wr kv (ts.take i) sv wv ρ m ∧ Keeps (fun _ => False) X Wr) (fun _ iv _ _ => n - (intOf iv).toNat)
  case atStart => exact ⟨0, fun _ => nilv, fun _ => nilv, fun _ => 0, rfl, Nat.zero_le _, TL.first _ _ _ _ _, Keeps.refl _ _⟩
  case round =>
    obtain ⟨i, sv, wv, ρ, rfl, hi, hT, kr⟩ := hrel
    obtain ⟨ak, ck, rfl⟩ := hT.sln (by rw [List.length_take, HTS.out]; omega : (ts.take i).length = i)
    by_cases hlt : i < n
    · have j1 : decide ((i : Int) < (n : Int)) = true := decide_eq_true (by omega)
      have j2 : decide (i < n) = true := decide_eq_true hlt
      have j3 : (i : Int) < (n : Int) := by omega
      have j4 : (0 : Int) ≤ (i : Int) := by omega
      have hwi : IntKind.i64.wrap ((i : Int) + 1) = (i : Int) + 1 := by rw [IntKind.wrap_i64]; omega
      have hit : i < ts.length := by rw [HTS.out]; exact hlt
      have hLr := HL.out.keep kr
      obtain ⟨gl, cl', el, hR⟩ := hLr.at hit
      obtain rfl : al = some ⟨gl, 0, none⟩ := by injection el
      have hR := hR wr (Keeps.refl _ _)
      have hso := hLr.s i hit
      have hwo := hLr.w i hit
      have hls := hLr.ls i hit
      have htk : ts.take (i + 1) = ts.take i ++ [ts.getD i tv0] := by
        rw [List.take_add_one, List.getElem?_eq_getElem hit, List.getD_eq_getElem?_getD, List.getElem?_eq_getElem hit]
        rfl
      have hlk : (ts.take i).length = i := by rw [List.length_take]; omega
      have HAP : Hid (∀ W sk wk, Keeps (fun _ => False) wr W → W.ownsRow wr.heap.size 44 9 sk (ts.getD i tv0).saws.length (scl (ts.getD i tv0).saws) → W.ownsRow wr.heap.size 46 4 wk (ts.getD i tv0).wrs.length (wcl (ts.getD i tv0).wrs) → (∀ b, sk.ownBlock = some b → wk.ownBlock = some b → False) → ∃ a' c' W', (Builtin.append_ #[35, 35] 35 #[.slice ak i ck, .slice (some ⟨W.heap.size, 0, none⟩) 1 1]).run Try.prog (W.alloc (.cells ((ts.getD i tv0).cells sk wk).toArray 42)) = .ok (.slice a' (i + 1) c') W' ∧ Hid (∃ sv' wv' ρ', TL X.heap.size W' (.slice a' (i + 1) c') (ts.take (i + 1)) sv' wv' ρ' m) ∧ Keeps (fun b => X.heap.size ≤ b) wr W') := fun W sk wk k h1 h2 h3 => by
        obtain ⟨v', W', q1, q2, q3⟩ := hT.addL k (ts.getD i tv0) h1 h2 h3 hls (by rw [hlk]; omega)
        rw [← htk] at q2
        obtain ⟨a', c', rfl⟩ := q2.sln (by rw [htk, List.length_append, hlk]; rfl : (ts.take (i + 1)).length = i + 1)
        exact ⟨a', c', W', q1, ⟨_, _, _, q2⟩, q3.mono (fun b _ e => owns_baseT hT.o b e)⟩
      have HCS : Hid (∀ W, Keeps (fun _ => False) wr W → ∃ a' c' W', (Builtin.append_ #[39, 39] 39 #[.slice (some ⟨W.heap.size, 0, none⟩) 0 0, sl i]).run Try.prog (W.alloc (.cells #[] 44)) = .ok (.slice a' (ts.getD i tv0).saws.length c') W' ∧ Hid (W'.ownsRow W.heap.size 44 9 (.slice a' (ts.getD i tv0).saws.length c') (ts.getD i tv0).saws.length (scl (ts.getD i tv0).saws)) ∧ Keeps (fun _ => False) W W') := fun W k => by
        obtain ⟨v', W', q1, q2, q3⟩ := copy_own uSw iSw rfl (by decide) (k.owns hso (fun _ _ e => e)) (by decide) (by omega) (one_scl _)
        obtain ⟨a', c', rfl, -⟩ := own_slice q2
        exact ⟨a', c', W', q1, q2, q3⟩
      have HCW : Hid (∀ W, Keeps (fun _ => False) wr W → ∃ a' c' W', (Builtin.append_ #[40, 40] 40 #[.slice (some ⟨W.heap.size, 0, none⟩) 0 0, wl i]).run Try.prog (W.alloc (.cells #[] 46)) = .ok (.slice a' (ts.getD i tv0).wrs.length c') W' ∧ Hid (W'.ownsRow W.heap.size 46 4 (.slice a' (ts.getD i tv0).wrs.length c') (ts.getD i tv0).wrs.length (wcl (ts.getD i tv0).wrs)) ∧ Keeps (fun _ => False) W W') := fun W k => by
        obtain ⟨v', W', q1, q2, q3⟩ := copy_own uWr iWr rfl (by decide) (k.owns hwo (fun _ _ e => e)) (by decide) (by omega) (one_wcl _)
        obtain ⟨a', c', rfl, -⟩ := own_slice q2
        exact ⟨a', c', W', q1, q2, q3⟩
      obtain ⟨sa, sc, es, -⟩ := own_slice hso
      obtain ⟨wa, wc, ew, -⟩ := own_slice hwo
      rw [es] at HCS hR
      rw [ew] at HCW hR
      obtain ⟨W4, hW4⟩ : ∃ W4, W4 = wr.alloc (.cells (tv0.cells nilv nilv).toArray 42) := ⟨_, rfl⟩
      have k4 : Keeps (fun _ => False) wr W4 := by rw [hW4]; exact (Keeps.refl _ wr).alloc _
      have hU4 : CL W4 wr.heap.size (tv0.cells nilv nilv) := by rw [hW4]; exact CL.made wr (tv0.cells nilv nilv) _
      have z4 : Hid (W4.heap.size = wr.heap.size + 1) := by show _ = _; rw [hW4]; simp
      have HW4 : Hid (W4 = wr.alloc (.cells (tv0.cells nilv nilv).toArray 42)) := hW4
      clear hW4
      unfold tv0 nilv Tv.cells at HW4
      dsimp only at HW4
      have hOC := one_tx (ts.getD i tv0) (sv := .slice sa (ts.getD i tv0).saws.length sc) (wv := .slice wa (ts.getD i tv0).wrs.length wc) rfl rfl
      clear hLr hT htk hlk hso hwo hls hit es ew
      generalize ts.getD i tv0 = t at *
      have HU4 : Hid (CL W4 wr.heap.size (tv0.cells nilv nilv)) := hU4
      clear hU4
      go_wp2_with (first | (refine wpList_load_run rfl 42 _ rfl ⟨gl, i * 11, none⟩ rfl _ hR ?_; clear hR) | (rw [← HW4.out]; clear HW4; refine wpList_store_cl rfl 42 _ _ rfl wr.heap.size 0 11 _ rfl rfl rfl HU4.out (by show 11 ≤ 11; decide) iTx hOC ?_; intro w5 hc5 k5 z5; have hI5 : CL w5 wr.heap.size (t.cells (.slice sa t.saws.length sc) (.slice wa t.wrs.length wc)) := hc5; clear hc5 HU4; have K5 : Keeps (fun _ => False) wr w5 := k4.trans' k5 (fun _ _ e => e) (fun i hi e => (by have e : i = wr.heap.size := e; omega)); clear k5 k4; have Z5 : Hid (w5.heap.size = wr.heap.size + 1) := z5.trans z4.out; clear z5 z4; have c9 := (hI5.keep (by show 0 < 11; decide) ((Keeps.refl (fun _ => False) w5).alloc (.cells #[] 44)) (fun e => e)).c 9 _ rfl; obtain ⟨a1, q1, W6, hr6, ho6, k6⟩ := HCS.out w5 K5; clear HCS)  | (at_builtin; refine wpList_append_t rfl _ _ _ rfl _ _ _ W6 rfl rfl hr6 ?_; clear hr6; have hI6 := hI5.keep (by show 0 < 11; decide) k6 (fun e => e); clear hI5 c9)  | (refine wpList_store_s1 rfl rfl 39 (.inl rfl) _ _ rfl wr.heap.size 9 rfl _ _ _ rfl hI6 (by show 9 < 11; decide) ?_; intro w7 hc7 k7 z7; have hI7 : CL w7 wr.heap.size (t.cells (.slice a1 t.saws.length q1) (.slice wa t.wrs.length wc)) := hc7; clear hc7 hI6; have K7 : Keeps (fun _ => False) wr w7 := (K5.trans k6).trans' k7 (fun _ _ e => e) (fun i hi e => (by have e : i = wr.heap.size := e; omega)); have ho7 : Hid (w7.ownsRow w5.heap.size 44 9 (.slice a1 t.saws.length q1) t.saws.length (scl t.saws)) := (k7.owns ho6.out (fun b e1 e2 => (by have e2 : b = wr.heap.size := e2; have := owns_baseT ho6.out b e1; have := Z5.out; omega))); have Z7 : Hid (wr.heap.size < w7.heap.size) := (by show _ < _; have := k6.size; have := Z5.out; omega); clear k7 K5 k6 ho6 z7; have c10 := (hI7.keep (by show 0 < 11; decide) ((Keeps.refl (fun _ => False) w7).alloc (.cells #[] 46)) (fun e => e)).c 10 _ rfl; obtain ⟨a2, q2, W8, hr8, ho8, k8⟩ := HCW.out w7 K7; clear HCW)  | (at_builtin; refine wpList_append_t rfl _ _ _ rfl _ _ _ W8 rfl rfl hr8 ?_; clear hr8; have hI8 := hI7.keep (by show 0 < 11; decide) k8 (fun e => e); clear hI7 c10)  | (refine wpList_store_s1 rfl rfl 40 (.inr rfl) _ _ rfl wr.heap.size 10 rfl _ _ _ rfl hI8 (by show 10 < 11; decide) ?_; intro w9 hc9 k9 z9; have hI9 : CL w9 wr.heap.size (t.cells (.slice a1 t.saws.length q1) (.slice a2 t.wrs.length q2)) := hc9; clear hc9 hI8; have K9 : Keeps (fun _ => False) wr w9 := (K7.trans k8).trans' k9 (fun _ _ e => e) (fun i hi e => (by have e : i = wr.heap.size := e; omega)); have hoW : Hid (w9.ownsRow w7.heap.size 46 4 (.slice a2 t.wrs.length q2) t.wrs.length (wcl t.wrs)) := (k9.owns ho8.out (fun b e1 e2 => (by have e2 : b = wr.heap.size := e2; have := owns_baseT ho8.out b e1; have := Z7.out; omega))); have hoS : Hid (w9.ownsRow w5.heap.size 44 9 (.slice a1 t.saws.length q1) t.saws.length (scl t.saws)) := (k9.owns (k8.owns ho7.out (fun _ _ e => e)) (fun b e1 e2 => (by have e2 : b = wr.heap.size := e2; have := owns_baseT ho7.out b e1; have := Z5.out; omega))); obtain ⟨a3, q3, W', hr', hT', k'⟩ := HAP.out w9 _ _ K9 (owns_low hoS.out (by have := Z5.out; omega)) (owns_low hoW.out (by have := Z7.out; omega)) (fun b e1 e2 => (by have := owns_lt' ho7.out b e1; have := owns_baseT hoW.out b e2; omega)); clear HAP hoS hoW ho7 ho8 k8 k9 K7 z9)  | (refine wpList_stop 129 rfl ?_; unfold Hid; refine wpList_load_run rfl 42 _ rfl ⟨wr.heap.size, 0, none⟩ rfl _ (run_txB hI9) ?_; clear hI9; (try simp only [Act.put, List.setIfInBounds_toArray, List.set_cons_zero, List.set_cons_succ]); refine wpList_buildTx rfl _ rfl (t.cells (.slice a1 t.saws.length q1) (.slice a2 t.wrs.length q2)).toArray rfl rfl ?_; (try simp only [Act.put, List.setIfInBounds_toArray, List.set_cons_zero, List.set_cons_succ]))  | (at_builtin; refine wpList_append_t rfl _ _ _ rfl _ _ _ W' rfl rfl hr' ?_; clear hr'))
      have K' : Keeps (fun _ => False) X W' := kr.trans' k' (fun _ _ e => e) (fun b hb e => by have e : X.heap.size ≤ b := e; omega)
      go_roundw
      case rel =>
        obtain ⟨sv', wv', ρ', hT'⟩ := hT'.out
        exact ⟨i + 1, sv', wv', ρ', by go_num, by omega, hT', K'⟩
      case measure => simp [intOf]; omega
    · have j1 : decide ((i : Int) < (n : Int)) = false := decide_eq_false (by omega)
      have j2 : decide (i < n) = false := decide_eq_false hlt
      obtain rfl : i = n := by omega
      go_wp2_with fail
      refine hKH.out _ _ ?_
      obtain ⟨hN, hts, hR, hS, hF, hV, hW, k0, kX⟩ := HCO.out
      obtain ⟨lb0, lb1, lb2⟩ := HLB.out
      have etk : ts.take i = ts := by rw [← hts]; exact List.take_length
      rw [etk] at hT
      exact ap_A2 HPB.out HTY.out hN hn hm hts hnN hM hR hS hF hV hW k0 (kX.trans kr) lb0 lb1 lb2 (Nat.le_refl _) kr.size hT (HL.out.keep kr)
end Go.Proofs.Ytmnmphkkcabkiaa

namespace Go.Proofs.Ytmnmphkkcabkiaa
open Go.RowKit
theorem bodyPost_to {P : Program} {fn : Func} {R R' : Ending → World → Prop} {e : Exit} {a : Act} {w : World} (h : bodyPost P fn R e a w) (hR : ∀ e w, R e w → R' e w) : bodyPost P fn R' e a w := by
  cases e <;> simp only [bodyPost] at h ⊢
  all_goals first
    | exact h
    | exact ⟨h.1, hR _ _ h.2⟩
    | exact hR _ _ h
    | exact ⟨h.1, h.2.choose, h.2.choose_spec.1, hR _ _ h.2.choose_spec.2⟩
theorem rcl_app (l m : List Rw) : rcl (l ++ m) = rcl l ++ rcl m := by
  unfold rcl
  rw [List.flatMap_append]
set_option maxRecDepth 100000 in
theorem join_any {W : World} {a : Option Addr} {l : List Rw} {base : Nat} {v : Value} (hl : RSL W a lifeL) (hm : W.ownsRow base 50 26 v l.length (rcl (l.map mv6))) (hn : (l.length + 6) * 192 ≤ 140737488355328) :
    ∃ a' c' W', (Builtin.append_ #[23, 23] 23 #[.slice a 6 6, v]).run Try.prog W = .ok (.slice a' (l.length + 6) c') W' ∧ RSL W' a' (lwR l) ∧ (a' = none → c' = 0) ∧ l.length + 6 ≤ c' ∧ Keeps (fun _ => False) W W' := by
  obtain ⟨i0, hi0, hz0, hz1, hz2⟩ := iRows
  obtain ⟨b, off, rfl, -⟩ := hl 0 (by show 0 < 6; decide)
  have holds : ∀ j u, (rcl lifeL)[j]? = some u → W.cell? ((⟨b, off, none⟩ : Addr).add j) = some u := fun j u e => by
    obtain ⟨h1, h2⟩ := rcl_back lifeL j u e
    obtain ⟨b', off', ea, hc⟩ := hl _ h1
    injection ea with ea
    injection ea with e1 e2
    subst e1 e2
    rw [add_at]
    have := hc _ _ h2
    rw [show off + j / 26 * 26 + j % 26 = off + j by omega] at this
    exact this
  by_cases h0 : l.length = 0
  · have e0 : l = [] := List.length_eq_zero_iff.1 h0
    subst e0
    have hr : (Builtin.append_ #[23, 23] 23 #[.slice (some ⟨b, off, none⟩) 6 6, v]).run Try.prog W = .ok (.slice (some ⟨b, off, none⟩) 6 6) W := by
      rcases hm.2 with ⟨rfl, _⟩ | ⟨g, cap, cur, rfl, _⟩
      · exact run_append_nothing W _ _ _ _ i0 uRows hi0 _ 6 6 (Nat.le_refl _) _ (Src.ofNil W uRows 0)
      · exact run_append_nothing W _ _ _ _ i0 uRows hi0 _ 6 6 (Nat.le_refl _) _ (Src.ofSlice W uRows ⟨g, 0, none⟩ 0 cap [] (by simp) (fun j u e => by simp at e) (fun u hu => by simp at hu))
    exact ⟨_, _, W, hr, hl, (fun e => by cases e), Nat.le_refl _, Keeps.refl _ _⟩
  · rcases hm.2 with ⟨rfl, h1⟩ | ⟨g, cap, cur, rfl, _⟩
    · omega
    · have hc := own_cl hm
      obtain ⟨v', w', hr, ho, hgr⟩ := run_append_arg_grows (P := Try.prog) (w := W) 23 23 50 i0 _ 26 192 uRows hi0 hz0 hz1 hz2 rfl (by decide) ⟨b, off, none⟩ 6 6 (rcl lifeL) (rcl_len lifeL) holds ⟨g, 0, none⟩ l.length cap (rcl (l.map mv6)) (by rw [rcl_len, List.length_map]) (fun j u e => by
        rw [add_atT, Nat.zero_add]
        exact hc.c j u e) (by omega) (by unfold maxLen; omega) (by omega)
      have el : (lwR l).length = 6 + l.length := by rw [lwR_len]; omega
      have ho2 : w'.ownsRow W.heap.size 50 26 v' (lwR l).length (rcl (lwR l)) := by
        rw [el]
        show w'.ownsRow _ _ _ _ _ (rcl (lifeL ++ l.map mv6))
        rw [rcl_app]
        exact ho
      obtain ⟨a', c', rfl, hl'⟩ := rsl_of_owns ho2 rfl
      rw [el, Nat.add_comm 6] at hr
      refine ⟨a', c', w', hr, hl', fun e => ?_, ?_, (Keeps.refl _ W).grown hgr (fun i _ e => by cases e)⟩
      · subst e
        obtain ⟨_, _, e, _⟩ := hl' 0 (by omega)
        cases e
      · rcases ho.2 with ⟨_, h1⟩ | ⟨g', cap', cur', ev, _, _, h2, _⟩
        · omega
        · injection ev with _ _ e3
          omega
end Go.Proofs.Ytmnmphkkcabkiaa

