import Derived.Test.YtmnmphkkcabkiaaG16
namespace Go.Proofs.Ytmnmphkkcabkiaa
open Go.RowKit
def seqTail : Nat → Code → Code
  | 0, c => c
  | n + 1, .seq _ t => seqTail n t
  | _ + 1, c => c
def apT (n : Nat) (f : Func) : Code := match f.body with | some c => seqTail n c | none => .skip
def lwR (l : List Rw) : List Rw := lifeL ++ l.map mv6
theorem lwR_len (l : List Rw) : (lwR l).length = l.length + 6 := by
  unfold lwR
  rw [List.length_append, List.length_map]
  show 6 + l.length = _
  omega
theorem txK_pre (m : List Rw) : ∀ k, k ≤ 6 → txK (lifeL ++ m) k = txK lifeL k
  | 0, _ => rfl
  | k + 1, hk => by
    show stT (txK (lifeL ++ m) k) ((lifeL ++ m).getD k rw0) = stT (txK lifeL k) (lifeL.getD k rw0)
    rw [txK_pre m k (by omega), List.getD_eq_getElem?_getD, List.getElem?_append_left (by show k < 6; omega), ← List.getD_eq_getElem?_getD]
theorem life_tx : (txK lifeL 5).1.length = 1 ∧ ((txK lifeL 5).1.getD 0 tv0).end_ = 4 ∧ ((txK lifeL 5).1.getD 0 tv0).saws.length = 2 ∧ ((txK lifeL 5).1.getD 0 tv0).wrs.length = 1 := ⟨by kernel_rfl, by kernel_rfl, by kernel_rfl, by kernel_rfl⟩
theorem lw_first {l : List Rw} (h : fstP (lwR l) 0 (f0 6) = none) : 0 < (txD (lwR l)).length ∧ ((txD (lwR l)).getD 0 tv0).saws.length = 2 ∧ ((txD (lwR l)).getD 0 tv0).wrs.length = 1 := by
  have hl := lwR_len l
  obtain ⟨e1, e2, e3, e4⟩ := life_tx
  have e5 : txK (lwR l) 5 = txK lifeL 5 := txK_pre _ 5 (by omega)
  have hm := txK_mono (lwR l) 5 ((lwR l).length - 5)
  rw [show 5 + ((lwR l).length - 5) = (lwR l).length by omega, e5, e1] at hm
  have hst := ended_stays h (k := 5) (i := 0) (by rw [e5, e1]; omega) (by rw [e5, e2]; decide) ((lwR l).length - 5) (by omega)
  rw [show 5 + ((lwR l).length - 5) = (lwR l).length by omega, e5] at hst
  have hlen : (txD (lwR l)).length = (txK (lwR l) (lwR l).length).1.length := rlK_len _ _ _
  have e6 : (txD (lwR l)).getD 0 tv0 = _ := rlK_saws (ts := (txK (lwR l) (lwR l).length).1) (n := (lwR l).length) (fun k hk h4 => rel_entry h k hk h4) (lwR l).length (Nat.le_refl _) 0 (by omega)
  rw [e6]
  dsimp only
  rw [List.length_map, hst, e3, e4]
  exact ⟨by omega, rfl, rfl⟩
set_option maxHeartbeats 1000000 in
set_option maxRecDepth 100000 in
theorem eql_rw (s : Rw) (w : World) : (Op.equalIn 10000 50 (.agg s.cells.toArray) (.agg s.cells.toArray)).run Try.prog w = .ok true w := by
  rw [run_equalIn_agg w 9999 _ _ _ (by kernel_rfl) (by kernel_rfl)]
  unfold Program.fieldsOf
  rw [Try.underlying50]
  unfold Rw.cells
  go_simp
set_option maxHeartbeats 1000000 in
set_option maxRecDepth 100000 in
theorem ap_G {w0 X : World} {a0 a7 : Option Addr} {N c0 c7 : Nat} {lw : List Rw} {x1 x2 x3 x4 x5 x6 x8 x9 x10 x11 x12 x13 x14 x15 x16 x17 x18 x19 x20 x21 x22 x23 x24 x25 x26 x27 x28 x29 x30 x31 x32 x33 x34 x35 x36 x37 x38 x39 x40 x41 x42 x43 x44 x45 x46 x47 x48 x49 x50 x51 x52 x53 x54 x55 x56 x57 x58 x59 x60 x61 x62 x63 x64 x65 x66 x67 x68 x69 x70 x71 x72 x73 x74 x75 x76 x77 x78 x79 x80 x81 x82 x83 x84 x85 x86 x87 x88 x89 x90 x91 x92 x93 x94 x95 x96 x97 x98 x99 x100 x101 x102 x103 x104 x105 x106 x107 x108 x109 x110 x111 x112 x113 x114 x115 x116 x117 x118 x119 x120 x121 x122 x123 x124 x125 x126 x127 x128 x129 x130 x131 x132 x133 x134 x135 x136 x137 x138 x139 x140 x141 x142 x143 x144 x145 x146 x147 x148 x149 x150 x151 x152 x153 x154 x155 x156 x157 x158 x159 x160 x161 x162 x163 x164 x165 x166 x167 x168 x169 x170 x171 x172 x173 x174 x175 x176 x177 x178 x179 x180 x181 x182 x183 x184 x185 x186 x187 x188 x189 x190 x191 x192 x193 x194 x195 x196 x197 x198 x199 x200 x201 x202 x203 x204 x205 x206 x207 x208 x209 x210 x211 x212 x213 x214 x215 x216 x217 x218 x219 x220 x221 x222 x223 x224 x225 x226 x227 x228 x229 x230 x231 x232 x233 x234 x235 x236 x237 x238 x239 x240 x241 x242 x243 x244 x245 x246 x247 x248 x249 x250 x251 x252 x253 x254 x255 x256 x257 x258 x259 x260 x261 x262 x263 x264 x265 x266 x267 x268 x269 x270 x271 x272 x273 x274 x275 x276 x277 x278 x279 x280 x281 x282 x283 x284 x285 x286 x287 x288 x289 x290 x291 x292 x293 x294 x295 x296 x297 x298 x299 x300 x301 x302 x303 x304 x305 x306 x307 x308 x309 x310 x311 x312 x313 x314 x315 x316 x317 x318 x319 x320 x321 x322 x323 x324 x325 x326 x327 x328 x329 x330 x331 x332 x333 x334 x335 x336 x337 x338 x339 x340 x341 x342 x343 x344 x345 x346 x347 x348 x349 x350 x351 x352 x353 x354 x355 x356 x357 x358 x359 x360 x361 x362 x363 x364 x365 x366 x367 x368 : Value} (hN : lw.length = N) (hn : N ≤ 4611686018427387904) (hR : RSL X a0 lw) (hS : RSL X a7 lw) (kX : Keeps (fun _ => False) w0 X) : (apT 23 Try.f5).wp Try.prog (bodyPost Try.prog Try.f5 (fun e w' => e = .returned (.bool true) ∧ Below w0.heap.size w0 w')) { tmps := #[.slice a0 N c0, x1, x2, x3, x4, x5, x6, .slice a7 N c7, x8, x9, x10, x11, x12, x13, x14, x15, x16, x17, x18, x19, x20, x21, x22, x23, x24, x25, x26, x27, x28, x29, x30, x31, x32, x33, x34, x35, x36, x37, x38, x39, x40, x41, x42, x43, x44, x45, x46, x47, x48, x49, x50, x51, x52, x53, x54, x55, x56, x57, x58, x59, x60, x61, x62, x63, x64, x65, x66, x67, x68, x69, x70, x71, x72, x73, x74, x75, x76, x77, x78, x79, x80, x81, x82, x83, x84, x85, x86, x87, x88, x89, x90, x91, x92, x93, x94, x95, x96, x97, x98, x99, x100, x101, x102, x103, x104, x105, x106, x107, x108, x109, x110, x111, x112, x113, x114, x115, x116, x117, x118, x119, x120, x121, x122, x123, x124, x125, x126, x127, x128, x129, x130, x131, x132, x133, x134, x135, x136, x137, x138, x139, x140, x141, x142, x143, x144, x145, x146, x147, x148, x149, x150, x151, x152, x153, x154, x155, x156, x157, x158, x159, x160, x161, x162, x163, x164, x165, x166, x167, x168, x169, x170, x171, x172, x173, x174, x175, x176, x177, x178, x179, x180, x181, x182, x183, x184, x185, x186, x187, x188, x189, x190, x191, x192, x193, x194, x195, x196, x197, x198, x199, x200, x201, x202, x203, x204, x205, x206, x207, x208, x209, x210, x211, x212, x213, x214, x215, x216, x217, x218, x219, x220, x221, x222, x223, x224, x225, x226, x227, x228, x229, x230, x231, x232, x233, x234, x235, x236, x237, x238, x239, x240, x241, x242, x243, x244, x245, x246, x247, x248, x249, x250, x251, x252, x253, x254, x255, x256, x257, x258, x259, x260, x261, x262, x263, x264, x265, x266, x267, x268, x269, x270, x271, x272, x273, x274, x275, x276, x277, x278, x279, x280, x281, x282, x283, x284, x285, x286, x287, x288, x289, x290, x291, x292, x293, x294, x295, x296, x297, x298, x299, x300, x301, x302, x303, x304, x305, x306, x307, x308, x309, x310, x311, x312, x313, x314, x315, x316, x317, x318, x319, x320, x321, x322, x323, x324, x325, x326, x327, x328, x329, x330, x331, x332, x333, x334, x335, x336, x337, x338, x339, x340, x341, x342, x343, x344, x345, x346, x347, x348, x349, x350, x351, x352, x353, x354, x355, x356, x357, x358, x359, x360, x361, x362, x363, x364, x365, x366, x367, x368], defers := [] } X := by
  have HR : Hid (RSL X a0 lw) := hR
  have HS : Hid (RSL X a7 lw) := hS
  clear hR hS
  dsimp only [apT, seqTail, Try.f5]
  go_wp2_with fail
  go_loopw [34] (fun iv Wr => ∃ k : Nat, iv = .int .i64 (k : Int) ∧ k ≤ N ∧ Keeps (fun _ => False) X Wr) (fun iv _ => N - (intOf iv).toNat)
  case atStart => exact ⟨0, rfl, Nat.zero_le _, Keeps.refl _ _⟩
  case round =>
    obtain ⟨k, rfl, hk, kr⟩ := hrel
    by_cases hlt : k < N
    · have hltI : decide ((k : Int) < (N : Int)) = true := by simp; omega
      have hltJ : (k : Int) < (N : Int) := by omega
      have hk0 : (0 : Int) ≤ (k : Int) := by omega
      have hw1 : IntKind.i64.wrap ((k : Int) + 1) = (k : Int) + 1 := by rw [IntKind.wrap_i64]; omega
      obtain ⟨ba, oa, rfl, d1⟩ := HR.out k (by omega)
      obtain ⟨bb, ob, rfl, d2⟩ := HS.out k (by omega)
      generalize lw.getD k rw0 = x at *
      have HR1 : Hid (∀ w', (∃ u : KS wr, w' = u.1) → (loadVar 50 ⟨ba, oa + k * 26, none⟩).run Try.prog w' = .ok (.agg x.cells.toArray) w') := by
        rintro _ ⟨u, rfl⟩
        exact run_rwAt (fun j v e => u.property.cell (kr.cell (d1 j v e) (fun e => e)) (fun e => e))
      have HR2 : Hid (∀ w', (∃ u : KS wr, w' = u.1) → (loadVar 50 ⟨bb, ob + k * 26, none⟩).run Try.prog w' = .ok (.agg x.cells.toArray) w') := by
        rintro _ ⟨u, rfl⟩
        exact run_rwAt (fun j v e => u.property.cell (kr.cell (d2 j v e) (fun e => e)) (fun e => e))
      have HE : Hid (∀ w, (Op.equalIn 10000 50 (.agg x.cells.toArray) (.agg x.cells.toArray)).run Try.prog w = .ok true w) := fun w => eql_rw x w
      have hNE : Nonempty (KS wr) := ⟨⟨wr, Keeps.refl _ wr⟩⟩
      clear d1 d2
      generalize x.cells.toArray = XA at HR1 HR2 HE
      go_wp2_with fail
      refine wp_region_ks (by kernel_rfl) (by kernel_rfl) ?_
      (repeat (first | go_big_quiet_skip | (refine wpQuiet_load (by kernel_rfl) 50 _ rfl ⟨ba, oa + k * 26, none⟩ rfl _ HR1.out ?_; clear HR1; (try simp only [Act.put, List.setIfInBounds_toArray, List.set_cons_zero, List.set_cons_succ])) | (refine wpQuiet_load (by kernel_rfl) 50 _ rfl ⟨bb, ob + k * 26, none⟩ rfl _ HR2.out ?_; clear HR2; (try simp only [Act.put, List.setIfInBounds_toArray, List.set_cons_zero, List.set_cons_succ])) | (refine wpQuiet_neq (by kernel_rfl) 50 _ _ _ rfl _ _ rfl rfl true (by kernel_rfl) HE.out ?_; (try simp only [Act.put, List.setIfInBounds_toArray, List.set_cons_zero, List.set_cons_succ])) | (go_big_quiet_step (fail))))
      refine wpQuiet_nil ?_
      rintro _ ⟨u, rfl⟩
      have ku := kr.trans u.property
      generalize u.val = wu at *
      go_wp2
      go_roundw
      case rel => exact ⟨k + 1, by go_num, by omega, ku⟩
      case measure => simp [intOf]; omega
    · have hltI : decide ((k : Int) < (N : Int)) = false := by simp; omega
      go_wp2
      go_ret
      exact ⟨rfl, (kX.trans kr).below (Nat.le_refl _) (fun _ _ e => e)⟩
end Go.Proofs.Ytmnmphkkcabkiaa

namespace Go.Proofs.Ytmnmphkkcabkiaa
open Go.RowKit
set_option maxHeartbeats 1000000 in
set_option maxRecDepth 100000 in
theorem ap_F {w0 X : World} {a0 a7 ak an am : Option Addr} {N n m c0 c7 ck cn cm bk bn bm : Nat} {lw : List Rw} {ts : List Tv} {sk wk sn wn sm wm : Nat → Value} {ρk ρn ρm : Nat → Nat} {x1 x2 x3 x4 x5 x6 x8 x9 x10 x11 x12 x13 x15 x16 x18 x19 x20 x21 x22 x23 x24 x25 x26 x27 x28 x29 x30 x32 x33 x34 x35 x36 x37 x38 x39 x40 x41 x42 x43 x44 x45 x46 x47 x48 x49 x50 x51 x52 x53 x54 x55 x56 x57 x58 x59 x60 x61 x62 x63 x64 x65 x66 x67 x68 x69 x70 x71 x72 x73 x74 x75 x76 x77 x78 x79 x80 x81 x82 x83 x84 x85 x86 x87 x88 x89 x90 x91 x92 x93 x94 x95 x96 x97 x98 x99 x100 x101 x102 x103 x104 x105 x106 x107 x108 x109 x110 x111 x112 x113 x114 x115 x116 x117 x118 x119 x120 x121 x122 x123 x124 x125 x126 x127 x128 x129 x130 x131 x132 x133 x134 x135 x136 x137 x138 x139 x140 x141 x142 x143 x144 x145 x146 x147 x148 x149 x150 x151 x152 x153 x154 x155 x156 x157 x158 x159 x160 x161 x162 x163 x164 x165 x166 x167 x168 x169 x170 x171 x172 x173 x174 x175 x176 x177 x178 x179 x180 x181 x182 x183 x184 x185 x186 x187 x188 x189 x190 x191 x192 x193 x194 x195 x196 x197 x198 x199 x200 x201 x202 x203 x204 x205 x206 x207 x208 x209 x210 x211 x212 x213 x214 x215 x216 x217 x218 x219 x220 x221 x222 x223 x224 x225 x226 x227 x228 x229 x230 x231 x232 x233 x234 x235 x236 x237 x238 x239 x240 x241 x242 x243 x244 x245 x246 x247 x248 x249 x250 x251 x252 x253 x254 x255 x256 x257 x258 x259 x260 x261 x262 x263 x264 x265 x266 x267 x268 x269 x270 x271 x272 x273 x274 x275 x276 x277 x278 x279 x280 x281 x282 x283 x284 x285 x286 x287 x288 x289 x290 x291 x292 x293 x294 x295 x296 x297 x298 x299 x300 x301 x302 x303 x304 x305 x306 x307 x308 x309 x310 x311 x312 x313 x314 x315 x316 x317 x318 x319 x320 x321 x322 x323 x324 x325 x326 x327 x328 x329 x330 x331 x332 x333 x334 x335 x336 x337 x338 x339 x340 x341 x342 x343 x344 x345 x346 x347 x348 x349 x350 x351 x352 x353 x354 x355 x356 x357 x358 x359 x360 x361 x362 x363 x364 x365 x366 x367 x368 : Value} (hN : lw.length = N) (hn : N ≤ 980000000000) (hm : m ≤ 4611686018427387904) (hts : ts.length = n) (hnN : n ≤ N) (hR : RSL X a0 lw) (hS : RSL X a7 lw) (kX : Keeps (fun _ => False) w0 X) (hk : TL bk X (.slice ak n ck) ts sk wk ρk m) (hnn : TL bn X (.slice an n cn) ts sn wn ρn m) (hmm : TL bm X (.slice am n cm) ts sm wm ρm m) : (apT 22 Try.f5).wp Try.prog (bodyPost Try.prog Try.f5 (fun e w' => e = .returned (.bool true) ∧ Below w0.heap.size w0 w')) { tmps := #[.slice a0 N c0, x1, x2, x3, x4, x5, x6, .slice a7 N c7, x8, x9, x10, x11, x12, x13, .slice ak n ck, x15, x16, .slice an n cn, x18, x19, x20, x21, x22, x23, x24, x25, x26, x27, x28, x29, x30, .slice am n cm, x32, x33, x34, x35, x36, x37, x38, x39, x40, x41, x42, x43, x44, x45, x46, x47, x48, x49, x50, x51, x52, x53, x54, x55, x56, x57, x58, x59, x60, x61, x62, x63, x64, x65, x66, x67, x68, x69, x70, x71, x72, x73, x74, x75, x76, x77, x78, x79, x80, x81, x82, x83, x84, x85, x86, x87, x88, x89, x90, x91, x92, x93, x94, x95, x96, x97, x98, x99, x100, x101, x102, x103, x104, x105, x106, x107, x108, x109, x110, x111, x112, x113, x114, x115, x116, x117, x118, x119, x120, x121, x122, x123, x124, x125, x126, x127, x128, x129, x130, x131, x132, x133, x134, x135, x136, x137, x138, x139, x140, x141, x142, x143, x144, x145, x146, x147, x148, x149, x150, x151, x152, x153, x154, x155, x156, x157, x158, x159, x160, x161, x162, x163, x164, x165, x166, x167, x168, x169, x170, x171, x172, x173, x174, x175, x176, x177, x178, x179, x180, x181, x182, x183, x184, x185, x186, x187, x188, x189, x190, x191, x192, x193, x194, x195, x196, x197, x198, x199, x200, x201, x202, x203, x204, x205, x206, x207, x208, x209, x210, x211, x212, x213, x214, x215, x216, x217, x218, x219, x220, x221, x222, x223, x224, x225, x226, x227, x228, x229, x230, x231, x232, x233, x234, x235, x236, x237, x238, x239, x240, x241, x242, x243, x244, x245, x246, x247, x248, x249, x250, x251, x252, x253, x254, x255, x256, x257, x258, x259, x260, x261, x262, x263, x264, x265, x266, x267, x268, x269, x270, x271, x272, x273, x274, x275, x276, x277, x278, x279, x280, x281, x282, x283, x284, x285, x286, x287, x288, x289, x290, x291, x292, x293, x294, x295, x296, x297, x298, x299, x300, x301, x302, x303, x304, x305, x306, x307, x308, x309, x310, x311, x312, x313, x314, x315, x316, x317, x318, x319, x320, x321, x322, x323, x324, x325, x326, x327, x328, x329, x330, x331, x332, x333, x334, x335, x336, x337, x338, x339, x340, x341, x342, x343, x344, x345, x346, x347, x348, x349, x350, x351, x352, x353, x354, x355, x356, x357, x358, x359, x360, x361, x362, x363, x364, x365, x366, x367, x368], defers := [] } X := by
  have HR : Hid (RSL X a0 lw) := hR
  have HS : Hid (RSL X a7 lw) := hS
  have HK : Hid (TL bk X (.slice ak n ck) ts sk wk ρk m) := hk
  have HN : Hid (TL bn X (.slice an n cn) ts sn wn ρn m) := hnn
  have HM : Hid (TL bm X (.slice am n cm) ts sm wm ρm m) := hmm
  have HTS : Hid (ts.length = n) := hts
  clear hR hS hk hnn hmm hts
  dsimp only [apT, seqTail, Try.f5]
  refine wp_seq_k (fun KK hKK => ?_)
  have hKH : Hid _ := hKK
  clear hKK
  go_wp2_with fail
  go_loopw [33] (fun iv Wr => ∃ k : Nat, iv = .int .i64 (k : Int) ∧ k ≤ n ∧ Keeps (fun _ => False) X Wr) (fun iv _ => n - (intOf iv).toNat)
  case atStart => exact ⟨0, rfl, Nat.zero_le _, Keeps.refl _ _⟩
  case round =>
    obtain ⟨k, rfl, hk, kr⟩ := hrel
    by_cases hlt : k < n
    · have hltI : decide ((k : Int) < (n : Int)) = true := by simp; omega
      have hltJ : (k : Int) < (n : Int) := by omega
      have hk0 : (0 : Int) ≤ (k : Int) := by omega
      have hw1 : IntKind.i64.wrap ((k : Int) + 1) = (k : Int) + 1 := by rw [IntKind.wrap_i64]; omega
      have hkt : k < ts.length := by rw [HTS.out]; exact hlt
      obtain ⟨gk, qk, ek, rk⟩ := HK.out.at hkt
      obtain ⟨gn, qn, en, rn⟩ := HN.out.at hkt
      obtain ⟨gm, qm, em, rm⟩ := HM.out.at hkt
      obtain rfl : ak = some ⟨gk, 0, none⟩ := by injection ek
      obtain rfl : an = some ⟨gn, 0, none⟩ := by injection en
      obtain rfl : am = some ⟨gm, 0, none⟩ := by injection em
      have HS1 : Hid (∀ W, Keeps (fun _ => False) wr W → Calls Try.prog 15 #[.agg ((ts.getD k tv0).cells (sm k) (wm k)).toArray, .agg ((ts.getD k tv0).cells (sk k) (wk k)).toArray] W fun e w' => e = .returned (.bool true) ∧ Keeps (fun _ => False) W w') := fun W kW => TL.same (HM.out.keep (kr.trans kW)) (HK.out.keep (kr.trans kW)) hkt hm
      have HS2 : Hid (∀ W, Keeps (fun _ => False) wr W → Calls Try.prog 15 #[.agg ((ts.getD k tv0).cells (sn k) (wn k)).toArray, .agg ((ts.getD k tv0).cells (sk k) (wk k)).toArray] W fun e w' => e = .returned (.bool true) ∧ Keeps (fun _ => False) W w') := fun W kW => TL.same (HN.out.keep (kr.trans kW)) (HK.out.keep (kr.trans kW)) hkt hm
      have HRk : Hid (∀ w', (∃ u : KS wr, w' = u.1) → (loadVar 42 ⟨gk, k * 11, none⟩).run Try.prog w' = .ok (.agg ((ts.getD k tv0).cells (sk k) (wk k)).toArray) w') := by
        rintro _ ⟨u, rfl⟩
        exact rk _ (kr.trans u.property)
      have HRn : Hid (∀ w', (∃ u : KS wr, w' = u.1) → (loadVar 42 ⟨gn, k * 11, none⟩).run Try.prog w' = .ok (.agg ((ts.getD k tv0).cells (sn k) (wn k)).toArray) w') := by
        rintro _ ⟨u, rfl⟩
        exact rn _ (kr.trans u.property)
      have HRm : Hid (∀ w', (∃ u : KS wr, w' = u.1) → (loadVar 42 ⟨gm, k * 11, none⟩).run Try.prog w' = .ok (.agg ((ts.getD k tv0).cells (sm k) (wm k)).toArray) w') := by
        rintro _ ⟨u, rfl⟩
        exact rm _ (kr.trans u.property)
      have hNE : Nonempty (KS wr) := ⟨⟨wr, Keeps.refl _ wr⟩⟩
      clear ek en em rk rn rm hkt
      generalize ((ts.getD k tv0).cells (sk k) (wk k)).toArray = Ak at HS1 HS2 HRk
      generalize ((ts.getD k tv0).cells (sn k) (wn k)).toArray = An at HS2 HRn
      generalize ((ts.getD k tv0).cells (sm k) (wm k)).toArray = Am at HS1 HRm
      go_wp2_with fail
      refine wp_region_ks (by kernel_rfl) (by kernel_rfl) ?_
      (repeat (first | go_big_quiet_skip | (refine wpQuiet_load (by kernel_rfl) 42 _ rfl ⟨gk, k * 11, none⟩ rfl _ HRk.out ?_; (try simp only [Act.put, List.setIfInBounds_toArray, List.set_cons_zero, List.set_cons_succ])) | (refine wpQuiet_load (by kernel_rfl) 42 _ rfl ⟨gn, k * 11, none⟩ rfl _ HRn.out ?_; (try simp only [Act.put, List.setIfInBounds_toArray, List.set_cons_zero, List.set_cons_succ])) | (refine wpQuiet_load (by kernel_rfl) 42 _ rfl ⟨gm, k * 11, none⟩ rfl _ HRm.out ?_; (try simp only [Act.put, List.setIfInBounds_toArray, List.set_cons_zero, List.set_cons_succ])) | (go_big_quiet_step (first | (go_at_call 15; (with_reducible refine (HS1.out _ (KS.property _)).mono ?_); rintro e w9 ⟨rfl, k9⟩; exact ⟨rfl, ⟨_, (KS.property _).trans k9⟩, rfl⟩) | (go_at_call 15; (with_reducible refine (HS2.out _ (KS.property _)).mono ?_); rintro e w9 ⟨rfl, k9⟩; exact ⟨rfl, ⟨_, (KS.property _).trans k9⟩, rfl⟩)))))
      refine wpQuiet_nil ?_
      rintro _ ⟨u, rfl⟩
      have ku := kr.trans u.property
      generalize u.val = wu at *
      go_wp2
      go_roundw
      case rel => exact ⟨k + 1, by go_num, by omega, ku⟩
      case measure => simp [intOf]; omega
    · have hltI : decide ((k : Int) < (n : Int)) = false := by simp; omega
      go_wp2_with fail
      refine hKH.out _ _ ?_
      exact ap_G hN (by omega) (HR.out.keep kr) (HS.out.keep kr) (kX.trans kr)
end Go.Proofs.Ytmnmphkkcabkiaa

namespace Go.Proofs.Ytmnmphkkcabkiaa
open Go.RowKit
set_option maxHeartbeats 1000000 in
set_option maxRecDepth 100000 in
theorem ap_E2 {w0 : World} {fa a0 : Option Addr} {N n fc c0 M m : Nat} {s : Int} {lw : List Rw} {ts : List Tv} {F0 G : Nat → V3} {X : World} {a7 a8 a10 ak an : Option Addr} {c7 c8 c10 ck cn bk bn : Nat} {sk wk sn wn : Nat → Value} {ρk ρn : Nat → Nat} {x2 x3 x4 x5 x6 x11 x12 x13 x15 x16 x18 x19 x20 x21 x22 x23 x24 x25 x26 x27 x28 x29 x30 x31 x32 x33 x34 x35 x36 x37 x38 x39 x40 x41 x42 x43 x44 x45 x46 x47 x48 x49 x50 x51 x52 x53 x54 x55 x56 x57 x58 x59 x60 x61 x62 x63 x64 x65 x66 x67 x68 x69 x70 x71 x72 x73 x74 x75 x76 x77 x78 x79 x80 x81 x82 x83 x84 x85 x86 x87 x88 x89 x90 x91 x92 x93 x94 x95 x96 x97 x98 x99 x100 x101 x102 x103 x104 x105 x106 x107 x108 x109 x110 x111 x112 x113 x114 x115 x116 x117 x118 x119 x120 x121 x122 x123 x124 x125 x126 x127 x128 x129 x130 x131 x132 x133 x134 x135 x136 x137 x138 x139 x140 x141 x142 x143 x144 x145 x146 x147 x148 x149 x150 x151 x152 x153 x154 x155 x156 x157 x158 x159 x160 x161 x162 x163 x164 x165 x166 x167 x168 x169 x170 x171 x172 x173 x174 x175 x176 x177 x178 x179 x180 x181 x182 x183 x184 x185 x186 x187 x188 x189 x190 x191 x192 x193 x194 x195 x196 x197 x198 x199 x200 x201 x202 x203 x204 x205 x206 x207 x208 x209 x210 x211 x212 x213 x214 x215 x216 x217 x218 x219 x220 x221 x222 x223 x224 x225 x226 x227 x228 x229 x230 x231 x232 x233 x234 x235 x236 x237 x238 x239 x240 x241 x242 x243 x244 x245 x246 x247 x248 x249 x250 x251 x252 x253 x254 x255 x256 x257 x258 x259 x260 x261 x262 x263 x264 x265 x266 x267 x268 x269 x270 x271 x272 x273 x274 x275 x276 x277 x278 x279 x280 x281 x282 x283 x284 x285 x286 x287 x288 x289 x290 x291 x292 x293 x294 x295 x296 x297 x298 x299 x300 x301 x302 x303 x304 x305 x306 x307 x308 x309 x310 x311 x312 x313 x314 x315 x316 x317 x318 x319 x320 x321 x322 x323 x324 x325 x326 x327 x328 x329 x330 x331 x332 x333 x334 x335 x336 x337 x338 x339 x340 x341 x342 x343 x344 x345 x346 x347 x348 x349 x350 x351 x352 x353 x354 x355 x356 x357 x358 x359 x360 x361 x362 x363 x364 x365 x366 x367 x368 : Value} (HPA : ∀ W, Keeps (fun _ => False) w0 W → Calls Try.prog 11 #[.slice fa M fc, .slice a0 N c0, .int .i64 s] W fun e w' => ∃ v, e = .returned (.tuple #[v, .int .i64 0]) ∧ w'.ownsRow W.heap.size 27 3 v M (gvl G M) ∧ Keeps (fun _ => False) W w') (HTX : ∀ W, Keeps (fun _ => False) w0 W → Calls Try.prog 12 #[.slice a0 N c0] W fun e w' => ∃ base lv sv wv ρ, e = .returned (.tuple #[lv, .int .i64 0]) ∧ W.heap.size ≤ base ∧ TL base w' lv ts sv wv ρ m ∧ Keeps (fun _ => False) W w') (hN : lw.length = N) (hn : N ≤ 980000000000) (hm : m ≤ 980000000000) (hts : ts.length = n) (hnN : n ≤ N) (hM : M ≤ 5864062014805) (hR : RSL X a0 lw) (hS : RSL X a7 lw) (hF : VS X fa M F0) (hV : VS X a8 M F0) (hW : VS X a10 M G) (kX : Keeps (fun _ => False) w0 X) (hk : TL bk X (.slice ak n ck) ts sk wk ρk m) (hnn : TL bn X (.slice an n cn) ts sn wn ρn m) : (apT 19 Try.f5).wp Try.prog (bodyPost Try.prog Try.f5 (fun e w' => e = .returned (.bool true) ∧ Below w0.heap.size w0 w')) { tmps := #[.slice a0 N c0, .slice fa M fc, x2, x3, x4, x5, x6, .slice a7 N c7, .slice a8 M c8, .int .i64 s, .slice a10 M c10, x11, x12, x13, .slice ak n ck, x15, x16, .slice an n cn, x18, x19, x20, x21, x22, x23, x24, x25, x26, x27, x28, x29, x30, x31, x32, x33, x34, x35, x36, x37, x38, x39, x40, x41, x42, x43, x44, x45, x46, x47, x48, x49, x50, x51, x52, x53, x54, x55, x56, x57, x58, x59, x60, x61, x62, x63, x64, x65, x66, x67, x68, x69, x70, x71, x72, x73, x74, x75, x76, x77, x78, x79, x80, x81, x82, x83, x84, x85, x86, x87, x88, x89, x90, x91, x92, x93, x94, x95, x96, x97, x98, x99, x100, x101, x102, x103, x104, x105, x106, x107, x108, x109, x110, x111, x112, x113, x114, x115, x116, x117, x118, x119, x120, x121, x122, x123, x124, x125, x126, x127, x128, x129, x130, x131, x132, x133, x134, x135, x136, x137, x138, x139, x140, x141, x142, x143, x144, x145, x146, x147, x148, x149, x150, x151, x152, x153, x154, x155, x156, x157, x158, x159, x160, x161, x162, x163, x164, x165, x166, x167, x168, x169, x170, x171, x172, x173, x174, x175, x176, x177, x178, x179, x180, x181, x182, x183, x184, x185, x186, x187, x188, x189, x190, x191, x192, x193, x194, x195, x196, x197, x198, x199, x200, x201, x202, x203, x204, x205, x206, x207, x208, x209, x210, x211, x212, x213, x214, x215, x216, x217, x218, x219, x220, x221, x222, x223, x224, x225, x226, x227, x228, x229, x230, x231, x232, x233, x234, x235, x236, x237, x238, x239, x240, x241, x242, x243, x244, x245, x246, x247, x248, x249, x250, x251, x252, x253, x254, x255, x256, x257, x258, x259, x260, x261, x262, x263, x264, x265, x266, x267, x268, x269, x270, x271, x272, x273, x274, x275, x276, x277, x278, x279, x280, x281, x282, x283, x284, x285, x286, x287, x288, x289, x290, x291, x292, x293, x294, x295, x296, x297, x298, x299, x300, x301, x302, x303, x304, x305, x306, x307, x308, x309, x310, x311, x312, x313, x314, x315, x316, x317, x318, x319, x320, x321, x322, x323, x324, x325, x326, x327, x328, x329, x330, x331, x332, x333, x334, x335, x336, x337, x338, x339, x340, x341, x342, x343, x344, x345, x346, x347, x348, x349, x350, x351, x352, x353, x354, x355, x356, x357, x358, x359, x360, x361, x362, x363, x364, x365, x366, x367, x368], defers := [] } X := by
  have hpa := HPA X kX
  have HTY : Hid (∀ W, Keeps (fun _ => False) w0 W → Calls Try.prog 12 #[.slice a0 N c0] W fun e w' => ∃ base lv sv wv ρ, e = .returned (.tuple #[lv, .int .i64 0]) ∧ W.heap.size ≤ base ∧ TL base w' lv ts sv wv ρ m ∧ Keeps (fun _ => False) W w') := HTX
  have HK : Hid (TL bk X (.slice ak n ck) ts sk wk ρk m) := hk
  have HN : Hid (TL bn X (.slice an n cn) ts sn wn ρn m) := hnn
  have HTS : Hid (ts.length = n) := hts
  have q1 : ((n : Int) != (n : Int)) = false := by simp
  clear HPA HTX hk hnn hts
  dsimp only [apT, seqTail, Try.f5]
  refine wp_seq_k (fun KK hKK => ?_)
  have hKH : Hid _ := hKK
  clear hKK
  go_wp2_with (go_at_call 11; refine hpa.mono ?_; clear hpa; rintro e w1 ⟨v1, rfl, ho1, k1⟩; obtain ⟨a1, c1, rfl, hv1, -⟩ := vs_of ho1)
  refine hKH.out _ _ ?_
  clear hKH KK
  have htx := HTY.out w1 (kX.trans k1)
  refine wp_seq_k (fun KK hKK => ?_)
  have hKH : Hid _ := hKK
  clear hKK
  go_wp2_with (go_at_call 12; refine htx.mono ?_; clear htx; rintro e w2 ⟨bm, lv, sm, wm, ρm, rfl, -, hTm, k2⟩; obtain ⟨am, cm, rfl⟩ := hTm.sln HTS.out)
  refine hKH.out _ _ ?_
  clear hKH KK
  have k12 := k1.trans k2
  have hs1 := sameValues_ok c1 c10 (hv1.keep k2) (hW.keep k12) (by omega)
  have HS2 : Hid (∀ W, Keeps (fun _ => False) w2 W → Calls Try.prog 14 #[.slice fa M fc, .slice a8 M c8] W fun e w' => e = .returned (.bool true) ∧ Keeps (fun _ => False) W w') := fun W k => sameValues_ok fc c8 ((hF.keep k12).keep k) ((hV.keep k12).keep k) (by omega)
  have HTM : Hid (TL bm w2 (.slice am n cm) ts sm wm ρm m) := hTm
  clear hTm hv1 hW hF hV ho1
  refine wp_seq_k (fun KK hKK => ?_)
  have hKH : Hid _ := hKK
  clear hKK
  go_wp2_with (first | (go_at_call 14; (with_reducible refine hs1.mono ?_); clear hs1; rintro e w3 ⟨rfl, k3⟩; have hs2 := HS2.out w3 k3; clear HS2) | (go_at_call 14; (with_reducible refine hs2.mono ?_); clear hs2; rintro e w4 ⟨rfl, k4⟩))
  refine hKH.out _ _ ?_
  clear hKH KK
  have k34 := k3.trans k4
  have k14 := k12.trans k34
  exact ap_F hN hn (by omega) HTS.out hnN (hR.keep k14) (hS.keep k14) (kX.trans k14) (HK.out.keep k14) (HN.out.keep k14) (HTM.out.keep k34)
set_option maxHeartbeats 1000000 in
set_option maxRecDepth 100000 in
theorem ap_E {w0 : World} {fa a0 : Option Addr} {N n fc c0 M m : Nat} {s : Int} {lw : List Rw} {ts : List Tv} {F0 G : Nat → V3} {X : World} {a7 a8 a10 ak an : Option Addr} {c7 c8 c10 ck cn bk bn : Nat} {sk wk sn wn : Nat → Value} {ρk ρn : Nat → Nat} {x2 x3 x4 x5 x6 x11 x12 x13 x15 x16 x18 x19 x20 x21 x22 x23 x24 x25 x26 x27 x28 x29 x30 x31 x32 x33 x34 x35 x36 x37 x38 x39 x40 x41 x42 x43 x44 x45 x46 x47 x48 x49 x50 x51 x52 x53 x54 x55 x56 x57 x58 x59 x60 x61 x62 x63 x64 x65 x66 x67 x68 x69 x70 x71 x72 x73 x74 x75 x76 x77 x78 x79 x80 x81 x82 x83 x84 x85 x86 x87 x88 x89 x90 x91 x92 x93 x94 x95 x96 x97 x98 x99 x100 x101 x102 x103 x104 x105 x106 x107 x108 x109 x110 x111 x112 x113 x114 x115 x116 x117 x118 x119 x120 x121 x122 x123 x124 x125 x126 x127 x128 x129 x130 x131 x132 x133 x134 x135 x136 x137 x138 x139 x140 x141 x142 x143 x144 x145 x146 x147 x148 x149 x150 x151 x152 x153 x154 x155 x156 x157 x158 x159 x160 x161 x162 x163 x164 x165 x166 x167 x168 x169 x170 x171 x172 x173 x174 x175 x176 x177 x178 x179 x180 x181 x182 x183 x184 x185 x186 x187 x188 x189 x190 x191 x192 x193 x194 x195 x196 x197 x198 x199 x200 x201 x202 x203 x204 x205 x206 x207 x208 x209 x210 x211 x212 x213 x214 x215 x216 x217 x218 x219 x220 x221 x222 x223 x224 x225 x226 x227 x228 x229 x230 x231 x232 x233 x234 x235 x236 x237 x238 x239 x240 x241 x242 x243 x244 x245 x246 x247 x248 x249 x250 x251 x252 x253 x254 x255 x256 x257 x258 x259 x260 x261 x262 x263 x264 x265 x266 x267 x268 x269 x270 x271 x272 x273 x274 x275 x276 x277 x278 x279 x280 x281 x282 x283 x284 x285 x286 x287 x288 x289 x290 x291 x292 x293 x294 x295 x296 x297 x298 x299 x300 x301 x302 x303 x304 x305 x306 x307 x308 x309 x310 x311 x312 x313 x314 x315 x316 x317 x318 x319 x320 x321 x322 x323 x324 x325 x326 x327 x328 x329 x330 x331 x332 x333 x334 x335 x336 x337 x338 x339 x340 x341 x342 x343 x344 x345 x346 x347 x348 x349 x350 x351 x352 x353 x354 x355 x356 x357 x358 x359 x360 x361 x362 x363 x364 x365 x366 x367 x368 : Value} (HPA : ∀ W, Keeps (fun _ => False) w0 W → Calls Try.prog 11 #[.slice fa M fc, .slice a0 N c0, .int .i64 s] W fun e w' => ∃ v, e = .returned (.tuple #[v, .int .i64 0]) ∧ w'.ownsRow W.heap.size 27 3 v M (gvl G M) ∧ Keeps (fun _ => False) W w') (HTX : ∀ W, Keeps (fun _ => False) w0 W → Calls Try.prog 12 #[.slice a0 N c0] W fun e w' => ∃ base lv sv wv ρ, e = .returned (.tuple #[lv, .int .i64 0]) ∧ W.heap.size ≤ base ∧ TL base w' lv ts sv wv ρ m ∧ Keeps (fun _ => False) W w') (hN : lw.length = N) (hn : N ≤ 980000000000) (hm : m ≤ 980000000000) (hts : ts.length = n) (hnN : n ≤ N) (hM : M ≤ 5864062014805) (hR : RSL X a0 lw) (hS : RSL X a7 lw) (hF : VS X fa M F0) (hV : VS X a8 M F0) (hW : VS X a10 M G) (kX : Keeps (fun _ => False) w0 X) (hk : TL bk X (.slice ak n ck) ts sk wk ρk m) (hnn : TL bn X (.slice an n cn) ts sn wn ρn m) : (apT 17 Try.f5).wp Try.prog (bodyPost Try.prog Try.f5 (fun e w' => e = .returned (.bool true) ∧ Below w0.heap.size w0 w')) { tmps := #[.slice a0 N c0, .slice fa M fc, x2, x3, x4, x5, x6, .slice a7 N c7, .slice a8 M c8, .int .i64 s, .slice a10 M c10, x11, x12, x13, .slice ak n ck, x15, x16, .slice an n cn, x18, x19, x20, x21, x22, x23, x24, x25, x26, x27, x28, x29, x30, x31, x32, x33, x34, x35, x36, x37, x38, x39, x40, x41, x42, x43, x44, x45, x46, x47, x48, x49, x50, x51, x52, x53, x54, x55, x56, x57, x58, x59, x60, x61, x62, x63, x64, x65, x66, x67, x68, x69, x70, x71, x72, x73, x74, x75, x76, x77, x78, x79, x80, x81, x82, x83, x84, x85, x86, x87, x88, x89, x90, x91, x92, x93, x94, x95, x96, x97, x98, x99, x100, x101, x102, x103, x104, x105, x106, x107, x108, x109, x110, x111, x112, x113, x114, x115, x116, x117, x118, x119, x120, x121, x122, x123, x124, x125, x126, x127, x128, x129, x130, x131, x132, x133, x134, x135, x136, x137, x138, x139, x140, x141, x142, x143, x144, x145, x146, x147, x148, x149, x150, x151, x152, x153, x154, x155, x156, x157, x158, x159, x160, x161, x162, x163, x164, x165, x166, x167, x168, x169, x170, x171, x172, x173, x174, x175, x176, x177, x178, x179, x180, x181, x182, x183, x184, x185, x186, x187, x188, x189, x190, x191, x192, x193, x194, x195, x196, x197, x198, x199, x200, x201, x202, x203, x204, x205, x206, x207, x208, x209, x210, x211, x212, x213, x214, x215, x216, x217, x218, x219, x220, x221, x222, x223, x224, x225, x226, x227, x228, x229, x230, x231, x232, x233, x234, x235, x236, x237, x238, x239, x240, x241, x242, x243, x244, x245, x246, x247, x248, x249, x250, x251, x252, x253, x254, x255, x256, x257, x258, x259, x260, x261, x262, x263, x264, x265, x266, x267, x268, x269, x270, x271, x272, x273, x274, x275, x276, x277, x278, x279, x280, x281, x282, x283, x284, x285, x286, x287, x288, x289, x290, x291, x292, x293, x294, x295, x296, x297, x298, x299, x300, x301, x302, x303, x304, x305, x306, x307, x308, x309, x310, x311, x312, x313, x314, x315, x316, x317, x318, x319, x320, x321, x322, x323, x324, x325, x326, x327, x328, x329, x330, x331, x332, x333, x334, x335, x336, x337, x338, x339, x340, x341, x342, x343, x344, x345, x346, x347, x348, x349, x350, x351, x352, x353, x354, x355, x356, x357, x358, x359, x360, x361, x362, x363, x364, x365, x366, x367, x368], defers := [] } X := by
  have hpa := HPA X kX
  have HPB : Hid (∀ W, Keeps (fun _ => False) w0 W → Calls Try.prog 11 #[.slice fa M fc, .slice a0 N c0, .int .i64 s] W fun e w' => ∃ v, e = .returned (.tuple #[v, .int .i64 0]) ∧ w'.ownsRow W.heap.size 27 3 v M (gvl G M) ∧ Keeps (fun _ => False) W w') := HPA
  have HTY : Hid (∀ W, Keeps (fun _ => False) w0 W → Calls Try.prog 12 #[.slice a0 N c0] W fun e w' => ∃ base lv sv wv ρ, e = .returned (.tuple #[lv, .int .i64 0]) ∧ W.heap.size ≤ base ∧ TL base w' lv ts sv wv ρ m ∧ Keeps (fun _ => False) W w') := HTX
  have HK : Hid (TL bk X (.slice ak n ck) ts sk wk ρk m) := hk
  have HN : Hid (TL bn X (.slice an n cn) ts sn wn ρn m) := hnn
  clear HPA HTX hk hnn
  dsimp only [apT, seqTail, Try.f5]
  refine wp_seq_k (fun KK hKK => ?_)
  have hKH : Hid _ := hKK
  clear hKK
  go_wp2_with (go_at_call 11; refine hpa.mono ?_; clear hpa; rintro e w1 ⟨v1, rfl, ho1, k1⟩; obtain ⟨a1, c1, rfl, -⟩ := own_slice ho1)
  refine hKH.out _ _ ?_
  clear hKH KK
  refine wp_seq_k (fun KK hKK => ?_)
  have hKH : Hid _ := hKK
  clear hKK
  go_wp2_with fail
  go_loopw [28] (fun iv Wr => ∃ (i : Nat) (F9 : Nat → V3), iv = .int .i64 (i : Int) ∧ i ≤ M ∧ Wr.ownsRow X.heap.size 27 3 (.slice a1 M c1) M (gvl F9 M) ∧ Keeps (fun _ => False) X Wr) (fun iv _ => M - (intOf iv).toNat)
  case atStart => exact ⟨0, _, rfl, Nat.zero_le _, ho1, k1⟩
  case round =>
    obtain ⟨i, F9, rfl, hi, hO, kr⟩ := hrel
    clear ho1 k1
    by_cases hlt : i < M
    · have j1 : decide ((i : Int) < (M : Int)) = true := decide_eq_true (by omega)
      have j2 : decide (i < M) = true := decide_eq_true hlt
      have j3 : (i : Int) < (M : Int) := by omega
      have j4 : (0 : Int) ≤ (i : Int) := by omega
      have hwi : IntKind.i64.wrap ((i : Int) + 1) = (i : Int) + 1 := by rw [IntKind.wrap_i64]; omega
      obtain ⟨go, rfl⟩ : ∃ go, a1 = some ⟨go, 0, none⟩ := by
        rcases hO.2 with ⟨_, h0⟩ | ⟨g', _, _, e, _⟩
        · omega
        · injection e with e _ _
          exact ⟨g', e⟩
      have hgo := owns_baseT hO go rfl
      have hth := (own_cl hO).there (o := i * 3) (n := 3) (by rw [gvl_len]; omega)
      have hO9 := owns_sets (V3.cells ⟨-99, 0, false⟩) (i * 3) hO (by rw [gvl_len]; show i * 3 + 3 ≤ _; omega)
      rw [gvl_sets hlt] at hO9
      have k9 : Keeps (fun b => b = go) wr (wr.setCells go (i * 3) (V3.cells ⟨-99, 0, false⟩)) := (Keeps.refl _ wr).setsA _ _
      have K9 : Keeps (fun _ => False) X (wr.setCells go (i * 3) (V3.cells ⟨-99, 0, false⟩)) := kr.trans' k9 (fun _ _ e => e) (fun b hb e => by have e : b = go := e; omega)
      clear k9
      go_wp2_with (refine wpList_store_mid rfl 27 _ _ rfl go (i * 3) #[.int .i64 (-99), .int .i64 0, .bool false] rfl rfl hth (by rw [iVl]; rfl) (one_v3a ⟨-99, 0, false⟩) ?_)
      go_roundw
      case rel => exact ⟨i + 1, _, by go_num, by omega, hO9, K9⟩
      case measure => simp [intOf]; omega
    · have j1 : decide ((i : Int) < (M : Int)) = false := decide_eq_false (by omega)
      have j2 : decide (i < M) = false := decide_eq_false hlt
      go_wp2_with fail
      refine hKH.out _ _ ?_
      exact ap_E2 HPB.out HTY.out hN hn hm hts hnN hM (hR.keep kr) (hS.keep kr) (hF.keep kr) (hV.keep kr) (hW.keep kr) (kX.trans kr) (HK.out.keep kr) (HN.out.keep kr)
end Go.Proofs.Ytmnmphkkcabkiaa

