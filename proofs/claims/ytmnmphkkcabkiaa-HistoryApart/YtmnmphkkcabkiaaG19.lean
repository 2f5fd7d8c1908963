import Derived.Test.YtmnmphkkcabkiaaG18
namespace Go.Proofs.Ytmnmphkkcabkiaa
open Go.RowKit
def gB (g0 : Nat → Tv) (i : Nat) : Nat → Tv := fun j => if j < i then mkT j (g0 j) else g0 j
theorem iSw9 : (Try.prog.info? 44).map (·.size) = some 9 := by kernel_rfl
theorem iWr4 : (Try.prog.info? 46).map (·.size) = some 4 := by kernel_rfl
theorem one_mkS (i j : Nat) : (mkS i j).cells.toArray.all (·.oneCell') = true := all_oneCell_toArray (by simp [Sw.cells, Value.oneCell'])
theorem one_mkW (i : Nat) : (mkW i).cells.toArray.all (·.oneCell') = true := all_oneCell_toArray (by simp [Wo.cells, Value.oneCell'])
set_option maxHeartbeats 1000000 in
set_option maxRecDepth 100000 in
theorem ap_B {w0 : World} {fa a0 : Option Addr} {N n fc c0 M m : Nat} {s : Int} {lw : List Rw} {ts : List Tv} {F0 G : Nat → V3} {w8 X : World} {a7 a8 a10 al ak an : Option Addr} {c7 c8 c10 cl ck cn bl bk bn El : Nat} {sl wl sk wk sn wn : Nat → Value} {ρl ρk ρn : Nat → Nat} {g0 : Nat → Tv} {x2 x3 x4 x5 x6 x11 x13 x15 x16 x18 x19 x20 x21 x22 x23 x24 x25 x26 x27 x28 x29 x30 x31 x32 x33 x34 x35 x36 x37 x38 x39 x40 x41 x42 x43 x44 x45 x46 x47 x48 x49 x50 x51 x52 x53 x54 x55 x56 x57 x58 x59 x60 x61 x62 x63 x64 x65 x66 x67 x68 x69 x70 x71 x72 x73 x74 x75 x76 x77 x78 x79 x80 x81 x82 x83 x84 x85 x86 x87 x88 x89 x90 x91 x92 x93 x94 x95 x96 x97 x98 x99 x100 x101 x102 x103 x104 x105 x106 x107 x108 x109 x110 x111 x112 x113 x114 x115 x116 x117 x118 x119 x120 x121 x122 x123 x124 x125 x126 x127 x128 x129 x130 x131 x132 x133 x134 x135 x136 x137 x138 x139 x140 x141 x142 x143 x144 x145 x146 x147 x148 x149 x150 x151 x152 x153 x154 x155 x156 x157 x158 x159 x160 x161 x162 x163 x164 x165 x166 x167 x168 x169 x170 x171 x172 x173 x174 x175 x176 x177 x178 x179 x180 x181 x182 x183 x184 x185 x186 x187 x188 x189 x190 x191 x192 x193 x194 x195 x196 x197 x198 x199 x200 x201 x202 x203 x204 x205 x206 x207 x208 x209 x210 x211 x212 x213 x214 x215 x216 x217 x218 x219 x220 x221 x222 x223 x224 x225 x226 x227 x228 x229 x230 x231 x232 x233 x234 x235 x236 x237 x238 x239 x240 x241 x242 x243 x244 x245 x246 x247 x248 x249 x250 x251 x252 x253 x254 x255 x256 x257 x258 x259 x260 x261 x262 x263 x264 x265 x266 x267 x268 x269 x270 x271 x272 x273 x274 x275 x276 x277 x278 x279 x280 x281 x282 x283 x284 x285 x286 x287 x288 x289 x290 x291 x292 x293 x294 x295 x296 x297 x298 x299 x300 x301 x302 x303 x304 x305 x306 x307 x308 x309 x310 x311 x312 x313 x314 x315 x316 x317 x318 x319 x320 x321 x322 x323 x324 x325 x326 x327 x328 x329 x330 x331 x332 x333 x334 x335 x336 x337 x338 x339 x340 x341 x342 x343 x344 x345 x346 x347 x348 x349 x350 x351 x352 x353 x354 x355 x356 x357 x358 x359 x360 x361 x362 x363 x364 x365 x366 x367 x368 : Value} (HPA : ∀ W, Keeps (fun _ => False) w0 W → Calls Try.prog 11 #[.slice fa M fc, .slice a0 N c0, .int .i64 s] W fun e w' => ∃ v, e = .returned (.tuple #[v, .int .i64 0]) ∧ w'.ownsRow W.heap.size 27 3 v M (gvl G M) ∧ Keeps (fun _ => False) W w') (HTX : ∀ W, Keeps (fun _ => False) w0 W → Calls Try.prog 12 #[.slice a0 N c0] W fun e w' => ∃ base lv sv wv ρ, e = .returned (.tuple #[lv, .int .i64 0]) ∧ W.heap.size ≤ base ∧ TL base w' lv ts sv wv ρ m ∧ Keeps (fun _ => False) W w') (hN : lw.length = N) (hn : N ≤ 980000000000) (hm : m ≤ 980000000000) (hts : ts.length = n) (hnN : n ≤ N) (hM : M ≤ 5864062014805) (hR : RSL w8 a0 lw) (hS : RSL w8 a7 lw) (hF : VS w8 fa M F0) (hV : VS w8 a8 M F0) (hW : VS w8 a10 M G) (k0 : Keeps (fun _ => False) w0 w8) (kX : Keeps (fun _ => False) w8 X) (hb0 : ∀ b, (Value.slice al n cl).ownBlock = some b → w8.heap.size ≤ b ∧ b < El) (hb1 : ∀ i, i < n → ∀ b, (sl i).ownBlock = some b → w8.heap.size ≤ b ∧ b < El) (hb2 : ∀ i, i < n → ∀ b, (wl i).ownBlock = some b → w8.heap.size ≤ b ∧ b < El) (hbk : El ≤ bk) (hbn : El ≤ bn) (hk : TL bk X (.slice ak n ck) ts sk wk ρk m) (hnn : TL bn X (.slice an n cn) ts sn wn ρn m) (hl : TL bl X (.slice al n cl) (tsF g0 n) sl wl ρl m) : (apT 14 Try.f5).wp Try.prog (bodyPost Try.prog Try.f5 (fun e w' => e = .returned (.bool true) ∧ Below w0.heap.size w0 w')) { tmps := #[.slice a0 N c0, .slice fa M fc, x2, x3, x4, x5, x6, .slice a7 N c7, .slice a8 M c8, .int .i64 s, .slice a10 M c10, x11, .slice al n cl, x13, .slice ak n ck, x15, x16, .slice an n cn, x18, x19, x20, x21, x22, x23, x24, x25, x26, x27, x28, x29, x30, x31, x32, x33, x34, x35, x36, x37, x38, x39, x40, x41, x42, x43, x44, x45, x46, x47, x48, x49, x50, x51, x52, x53, x54, x55, x56, x57, x58, x59, x60, x61, x62, x63, x64, x65, x66, x67, x68, x69, x70, x71, x72, x73, x74, x75, x76, x77, x78, x79, x80, x81, x82, x83, x84, x85, x86, x87, x88, x89, x90, x91, x92, x93, x94, x95, x96, x97, x98, x99, x100, x101, x102, x103, x104, x105, x106, x107, x108, x109, x110, x111, x112, x113, x114, x115, x116, x117, x118, x119, x120, x121, x122, x123, x124, x125, x126, x127, x128, x129, x130, x131, x132, x133, x134, x135, x136, x137, x138, x139, x140, x141, x142, x143, x144, x145, x146, x147, x148, x149, x150, x151, x152, x153, x154, x155, x156, x157, x158, x159, x160, x161, x162, x163, x164, x165, x166, x167, x168, x169, x170, x171, x172, x173, x174, x175, x176, x177, x178, x179, x180, x181, x182, x183, x184, x185, x186, x187, x188, x189, x190, x191, x192, x193, x194, x195, x196, x197, x198, x199, x200, x201, x202, x203, x204, x205, x206, x207, x208, x209, x210, x211, x212, x213, x214, x215, x216, x217, x218, x219, x220, x221, x222, x223, x224, x225, x226, x227, x228, x229, x230, x231, x232, x233, x234, x235, x236, x237, x238, x239, x240, x241, x242, x243, x244, x245, x246, x247, x248, x249, x250, x251, x252, x253, x254, x255, x256, x257, x258, x259, x260, x261, x262, x263, x264, x265, x266, x267, x268, x269, x270, x271, x272, x273, x274, x275, x276, x277, x278, x279, x280, x281, x282, x283, x284, x285, x286, x287, x288, x289, x290, x291, x292, x293, x294, x295, x296, x297, x298, x299, x300, x301, x302, x303, x304, x305, x306, x307, x308, x309, x310, x311, x312, x313, x314, x315, x316, x317, x318, x319, x320, x321, x322, x323, x324, x325, x326, x327, x328, x329, x330, x331, x332, x333, x334, x335, x336, x337, x338, x339, x340, x341, x342, x343, x344, x345, x346, x347, x348, x349, x350, x351, x352, x353, x354, x355, x356, x357, x358, x359, x360, x361, x362, x363, x364, x365, x366, x367, x368], defers := [] } X := by
  have HK : Hid (TL bk X (.slice ak n ck) ts sk wk ρk m) := hk
  have HN : Hid (TL bn X (.slice an n cn) ts sn wn ρn m) := hnn
  have HPB : Hid (∀ W, Keeps (fun _ => False) w0 W → Calls Try.prog 11 #[.slice fa M fc, .slice a0 N c0, .int .i64 s] W fun e w' => ∃ v, e = .returned (.tuple #[v, .int .i64 0]) ∧ w'.ownsRow W.heap.size 27 3 v M (gvl G M) ∧ Keeps (fun _ => False) W w') := HPA
  have HTY : Hid (∀ W, Keeps (fun _ => False) w0 W → Calls Try.prog 12 #[.slice a0 N c0] W fun e w' => ∃ base lv sv wv ρ, e = .returned (.tuple #[lv, .int .i64 0]) ∧ W.heap.size ≤ base ∧ TL base w' lv ts sv wv ρ m ∧ Keeps (fun _ => False) W w') := HTX
  have HCO : Hid ((lw.length = N) ∧ (ts.length = n) ∧ RSL w8 a0 lw ∧ RSL w8 a7 lw ∧ VS w8 fa M F0 ∧ VS w8 a8 M F0 ∧ VS w8 a10 M G ∧ Keeps (fun _ => False) w0 w8 ∧ Keeps (fun _ => False) w8 X) := ⟨hN, hts, hR, hS, hF, hV, hW, k0, kX⟩
  have HLB : Hid ((∀ b, (Value.slice al n cl).ownBlock = some b → w8.heap.size ≤ b ∧ b < El) ∧ (∀ i, i < n → ∀ b, (sl i).ownBlock = some b → w8.heap.size ≤ b ∧ b < El) ∧ (∀ i, i < n → ∀ b, (wl i).ownBlock = some b → w8.heap.size ≤ b ∧ b < El)) := ⟨hb0, hb1, hb2⟩
  have h00 : TL bl X (.slice al n cl) (tsF (gB g0 0) n) sl wl ρl m := by
    have e : tsF (gB g0 0) n = tsF g0 n := tsF_congr (fun j _ => by unfold gB; rw [if_neg (by omega)])
    rw [e]
    exact hl
  clear hk hnn HPA HTX hN hts hR hS hF hV hW k0 kX hb0 hb1 hb2 hl
  dsimp only [apT, seqTail, Try.f5]
  refine wp_seq_k (fun KK hKK => ?_)
  have hKH : Hid _ := hKK
  clear hKK
  go_wp2_with fail
  go_loopw [19, 20, 21] (fun iv _ _ Wr => ∃ (i : Nat), iv = .int .i64 (i : Int) ∧ i ≤ n ∧ TL bl Wr (.slice al n cl) (tsF (gB g0 i) n) sl wl ρl m ∧ Keeps (fun b => w8.heap.size ≤ b ∧ b < El) X Wr) (fun iv _ _ _ => n - (intOf iv).toNat)
  case atStart => exact ⟨0, rfl, Nat.zero_le _, h00, Keeps.refl _ _⟩
  case round =>
    obtain ⟨i, rfl, hi, hT, kr⟩ := hrel
    clear h00
    by_cases hlt : i < n
    · have j1 : decide ((i : Int) < (n : Int)) = true := decide_eq_true (by omega)
      have j2 : decide (i < n) = true := decide_eq_true hlt
      have j3 : (i : Int) < (n : Int) := by omega
      have j4 : (0 : Int) ≤ (i : Int) := by omega
      have hwi : IntKind.i64.wrap ((i : Int) + 1) = (i : Int) + 1 := by rw [IntKind.wrap_i64]; omega
      have hwm : IntKind.i64.wrap (-1 - (i : Int)) = -1 - (i : Int) := by rw [IntKind.wrap_i64]; omega
      obtain ⟨gl, rfl⟩ : ∃ gl, al = some ⟨gl, 0, none⟩ := by
        rcases hT.o.2 with ⟨_, h0⟩ | ⟨g', _, _, e, _⟩
        · rw [tsF_len] at h0; omega
        · injection e with e _ _
          exact ⟨g', e⟩
      have hit : i < (tsF (gB g0 i) n).length := by rw [tsF_len]; exact hlt
      have egi : (tsF (gB g0 i) n).getD i tv0 = g0 i := by rw [tsF_get hlt]; unfold gB; rw [if_neg (by omega)]
      have hso := hT.s i hit
      have hls := hT.ls i hit
      rw [egi] at hso hls
      have hrs := hT.rs i hit
      have hr0 := hT.r0 gl rfl
      -- what is left to do with the saws, and with the puts
      have HSAW : Hid (∀ W', Keeps (fun b => (sl i).ownBlock = some b) wr W' → W'.ownsRow bl 44 9 (sl i) (g0 i).saws.length (scl (mixS i (g0 i).saws (g0 i).saws.length)) → TL bl W' (.slice (some ⟨gl, 0, none⟩) n cl) (tsF (fun j => if j = i then { g0 i with saws := mixS i (g0 i).saws (g0 i).saws.length } else gB g0 i j) n) sl wl ρl m) := fun W' k ho => by
        have q := hT.saw hit (mixS i (g0 i).saws (g0 i).saws.length) (by rw [mixS_len (Nat.le_refl _), egi]) k (by rw [mixS_len (Nat.le_refl _)]; exact ho)
        rw [egi, tsF_set hlt] at q
        exact q
      have HCL : Hid (∀ W', Keeps (fun b => (sl i).ownBlock = some b) wr W' → W'.cell? ⟨gl, i * 11 + 9, none⟩ = some (sl i)) := fun W' k => k.cell ((own_cl (tsF_len (gB g0 i) n ▸ hT.o)).c _ _ (gcl_get (c := fun q => ((tsF (gB g0 i) n).getD q tv0).cells (sl q) (wl q)) (fun _ _ => rfl) hit 9 (sl i) rfl)) (fun e => by have := hrs gl e; omega)
      clear hT hit egi
      obtain ⟨sa, sc, es, -⟩ := own_slice hso
      rw [es] at HSAW HCL hso hrs
      obtain ⟨lb0, lb1, lb2⟩ := HLB.out
      have hbi := lb1 i hlt
      rw [es] at hbi
      clear lb0 lb1 lb2 es
      generalize hns : (g0 i).saws.length = ns at *
      obtain ⟨WO, eWO⟩ : ∃ WO, WO = wr := ⟨_, rfl⟩
      have kO : Keeps (fun b => (Value.slice sa ns sc).ownBlock = some b) WO wr := by rw [eWO]; exact Keeps.refl _ _
      rw [← eWO] at HSAW HCL kr
      clear eWO
      have hO0 : wr.ownsRow bl 44 9 (.slice sa ns sc) ns (scl (mixS i (g0 i).saws 0)) := by
        have e : mixS i (g0 i).saws 0 = (g0 i).saws := by unfold mixS; simp
        rw [e]
        exact hso
      clear hso
      go_wp2_with fail
      go_loopw [20] (fun jv Wr => ∃ (j : Nat), jv = .int .i64 (j : Int) ∧ j ≤ ns ∧ Wr.ownsRow bl 44 9 (.slice sa ns sc) ns (scl (mixS i (g0 i).saws j)) ∧ Keeps (fun b => (Value.slice sa ns sc).ownBlock = some b) WO Wr) (fun jv _ => ns - (intOf jv).toNat)
      case atStart => exact ⟨0, rfl, Nat.zero_le _, hO0, kO⟩
      case round =>
        obtain ⟨j, rfl, hj, ho, kj⟩ := hrel
        clear hO0 kO
        have c9 := HCL.out wr kj
        by_cases hjt : j < ns
        · have l1 : decide ((j : Int) < (ns : Int)) = true := decide_eq_true (by omega)
          have l2 : decide (j < ns) = true := decide_eq_true hjt
          have l3 : (j : Int) < (ns : Int) := by omega
          have l4 : (0 : Int) ≤ (j : Int) := by omega
          have hwj : IntKind.i64.wrap ((j : Int) + 1) = (j : Int) + 1 := by rw [IntKind.wrap_i64]; omega
          have hwn : IntKind.i64.wrap (-1 - (j : Int)) = -1 - (j : Int) := by rw [IntKind.wrap_i64]; omega
          obtain ⟨gs, rfl⟩ : ∃ gs, sa = some ⟨gs, 0, none⟩ := by
            rcases ho.2 with ⟨_, h0⟩ | ⟨g', _, _, e, _⟩
            · omega
            · injection e with e _ _
              exact ⟨g', e⟩
          have hml : (mixS i (g0 i).saws j).length = ns := by rw [mixS_len (by omega)]; exact hns
          have hth := (own_cl ho).there (o := j * 9) (n := 9) (by rw [scl_len, hml]; omega)
          have hO9 := owns_sets (mkS i j).cells (j * 9) ho (by rw [scl_len, hml]; show j * 9 + 9 ≤ _; omega)
          rw [scl_sets _ _ _ (by rw [hml]; exact hjt), mixS_next (by omega)] at hO9
          have k9 : Keeps (fun b => (Value.slice (some ⟨gs, 0, none⟩) ns sc).ownBlock = some b) WO (wr.setCells gs (j * 9) (mkS i j).cells) := kj.trans' ((Keeps.refl (fun b => b = gs) wr).setsA _ _) (fun _ _ e => e) (fun b _ e => by have e : b = gs := e; rw [e]; rfl)
          clear ho kj
          go_wp2_with (refine wpList_store_mid rfl 44 _ _ rfl gs (j * 9) #[.int .i64 (-1 - (i : Int)), .int .i64 (-1 - (j : Int)), .int .i64 0, .bool false, .bool false, .bool false, .int .i64 0, .int .i64 0, .bool false] ?ax ?bx ?cx ?dx ?ex ?fx; (case ax => rfl); (case cx => exact hth); (case dx => (rw [iSw9]; rfl)); (case ex => exact one_mkS i j); (case bx => (refine Eq.trans (show _ = Value.agg _ from rfl) ?_; with_reducible rfl)))
          go_roundw
          case rel => exact ⟨j + 1, by go_num, by omega, hO9, k9⟩
          case measure => simp [intOf]; omega
        · have l1 : decide ((j : Int) < (ns : Int)) = false := decide_eq_false (by omega)
          have l2 : decide (j < ns) = false := decide_eq_false hjt
          obtain rfl : j = ns := by omega
          have hT1 := HSAW.out wr kj ho
          have kr1 : Keeps (fun b => w8.heap.size ≤ b ∧ b < El) X wr := kr.trans' kj (fun _ _ e => e) (fun b _ e => hbi b e)
          rw [← hns, mixS_all] at hT1
          obtain ⟨G1, hG1⟩ : ∃ G1, G1 = (fun q => if q = i then { g0 i with saws := (List.range (g0 i).saws.length).map (mkS i) } else gB g0 i q) := ⟨_, rfl⟩
          rw [← hG1] at hT1
          have HG1 : Hid (G1 = (fun q => if q = i then { g0 i with saws := (List.range (g0 i).saws.length).map (mkS i) } else gB g0 i q)) := hG1
          clear hG1 HSAW HCL ho kj kr hbi
          have hit : i < (tsF G1 n).length := by rw [tsF_len]; exact hlt
          have egi : (tsF G1 n).getD i tv0 = { g0 i with saws := (List.range (g0 i).saws.length).map (mkS i) } := by rw [tsF_get hlt, HG1.out]; exact if_pos rfl
          have hwo := hT1.w i hit
          rw [egi] at hwo
          have hrw := hT1.rw i hit
          have HWRS : Hid (∀ W', Keeps (fun b => (wl i).ownBlock = some b) wr W' → W'.ownsRow bl 46 4 (wl i) (g0 i).wrs.length (wcl (mixW i (g0 i).wrs (g0 i).wrs.length)) → TL bl W' (.slice (some ⟨gl, 0, none⟩) n cl) (tsF (gB g0 (i + 1)) n) sl wl ρl m) := fun W' k ho => by
            have q := hT1.wr hit (mixW i (g0 i).wrs (g0 i).wrs.length) (by rw [mixW_len (Nat.le_refl _), egi]) k (by rw [mixW_len (Nat.le_refl _)]; exact ho)
            rw [egi, tsF_set hlt] at q
            have e : tsF (fun q => if q = i then { ({ g0 i with saws := (List.range (g0 i).saws.length).map (mkS i) } : Tv) with wrs := mixW i (g0 i).wrs (g0 i).wrs.length } else G1 q) n = tsF (gB g0 (i + 1)) n := tsF_congr (fun q _ => by
              by_cases e : q = i
              · subst e
                unfold gB mkT
                rw [if_pos rfl, if_pos (by omega), mixW_all]
              · rw [if_neg e, HG1.out]
                dsimp only
                rw [if_neg e]
                unfold gB
                by_cases c : q < i
                · rw [if_pos c, if_pos (by omega)]
                · rw [if_neg c, if_neg (by omega)])
            rw [e] at q
            exact q
          have HCW : Hid (∀ W', Keeps (fun b => (wl i).ownBlock = some b) wr W' → W'.cell? ⟨gl, i * 11 + 10, none⟩ = some (wl i)) := fun W' k => k.cell ((own_cl (tsF_len G1 n ▸ hT1.o)).c _ _ (gcl_get (c := fun q => ((tsF G1 n).getD q tv0).cells (sl q) (wl q)) (fun _ _ => rfl) hit 10 (wl i) rfl)) (fun e => by have := hrw gl e; omega)
          clear hT1 hit egi HG1
          obtain ⟨wa, wc, ew, -⟩ := own_slice hwo
          dsimp only at hwo ew
          rw [ew] at HWRS HCW hwo hrw
          obtain ⟨lb0, lb1, lb2⟩ := HLB.out
          have hbi := lb2 i hlt
          rw [ew] at hbi
          have hlw := hls.2
          clear lb0 lb1 lb2 ew hls
          generalize hnw : (g0 i).wrs.length = nw at *
          obtain ⟨WP, eWP⟩ : ∃ WP, WP = wr := ⟨_, rfl⟩
          have kP : Keeps (fun b => (Value.slice wa nw wc).ownBlock = some b) WP wr := by rw [eWP]; exact Keeps.refl _ _
          rw [← eWP] at HWRS HCW kr1
          clear eWP
          have hP0 : wr.ownsRow bl 46 4 (.slice wa nw wc) nw (wcl (mixW i (g0 i).wrs 0)) := by
            have e : mixW i (g0 i).wrs 0 = (g0 i).wrs := by unfold mixW; simp
            rw [e]
            exact hwo
          clear hwo
          go_wp2_with fail
          go_loopw [21] (fun jv Wr => ∃ (j : Nat), jv = .int .i64 (j : Int) ∧ j ≤ nw ∧ Wr.ownsRow bl 46 4 (.slice wa nw wc) nw (wcl (mixW i (g0 i).wrs j)) ∧ Keeps (fun b => (Value.slice wa nw wc).ownBlock = some b) WP Wr) (fun jv _ => nw - (intOf jv).toNat)
          case atStart => exact ⟨0, rfl, Nat.zero_le _, hP0, kP⟩
          case round =>
            clear l1 l2 hjt hj
            obtain ⟨q, rfl, hq, ho, kj⟩ := hrel
            clear hP0 kP
            have cA := HCW.out wr kj
            by_cases hjt : q < nw
            · have l1 : decide ((q : Int) < (nw : Int)) = true := decide_eq_true (by omega)
              have l2 : decide (q < nw) = true := decide_eq_true hjt
              have l3 : (q : Int) < (nw : Int) := by omega
              have l4 : (0 : Int) ≤ (q : Int) := by omega
              have hwj : IntKind.i64.wrap ((q : Int) + 1) = (q : Int) + 1 := by rw [IntKind.wrap_i64]; omega
              obtain ⟨gs, rfl⟩ : ∃ gs, wa = some ⟨gs, 0, none⟩ := by
                rcases ho.2 with ⟨_, h0⟩ | ⟨g', _, _, e, _⟩
                · omega
                · injection e with e _ _
                  exact ⟨g', e⟩
              have hml : (mixW i (g0 i).wrs q).length = nw := by rw [mixW_len (by omega)]; exact hnw
              have hth := (own_cl ho).there (o := q * 4) (n := 4) (by rw [wcl_len, hml]; omega)
              have hO9 := owns_sets (mkW i).cells (q * 4) ho (by rw [wcl_len, hml]; show q * 4 + 4 ≤ _; omega)
              rw [wcl_sets _ _ _ (by rw [hml]; exact hjt), mixW_next (by omega)] at hO9
              have k9 : Keeps (fun b => (Value.slice (some ⟨gs, 0, none⟩) nw wc).ownBlock = some b) WP (wr.setCells gs (q * 4) (mkW i).cells) := kj.trans' ((Keeps.refl (fun b => b = gs) wr).setsA _ _) (fun _ _ e => e) (fun b _ e => by have e : b = gs := e; rw [e]; rfl)
              clear ho kj
              go_wp2_with (refine wpList_store_mid rfl 46 _ _ rfl gs (q * 4) #[.int .i64 (-1 - (i : Int)), .int .i64 0, .int .i64 0, .bool false] ?az ?bz ?cz ?dz ?ez ?fz; (case az => rfl); (case cz => exact hth); (case dz => (rw [iWr4]; rfl)); (case ez => exact one_mkW i); (case bz => (refine Eq.trans (show _ = Value.agg _ from rfl) ?_; with_reducible rfl)))
              go_roundw
              case rel => exact ⟨q + 1, by go_num, by omega, hO9, k9⟩
              case measure => simp [intOf]; omega
            · have l1 : decide ((q : Int) < (nw : Int)) = false := decide_eq_false (by omega)
              have l2 : decide (q < nw) = false := decide_eq_false hjt
              obtain rfl : q = nw := by omega
              have hT2 := HWRS.out wr kj ho
              have kr2 : Keeps (fun b => w8.heap.size ≤ b ∧ b < El) X wr := kr1.trans' kj (fun _ _ e => e) (fun b _ e => hbi b e)
              go_wp2_with fail
              go_roundw
              case rel => exact ⟨i + 1, by go_num, by omega, hT2, kr2⟩
              case measure => simp [intOf]; omega
    · have j1 : decide ((i : Int) < (n : Int)) = false := decide_eq_false (by omega)
      have j2 : decide (i < n) = false := decide_eq_false hlt
      obtain rfl : i = n := by omega
      go_wp2_with fail
      refine hKH.out _ _ ?_
      obtain ⟨hN, hts, hR, hS, hF, hV, hW, k0, kX⟩ := HCO.out
      obtain ⟨lb0, lb1, lb2⟩ := HLB.out
      have kW : Keeps (fun _ => False) w8 wr := kX.trans' kr (fun _ _ e => e) (fun b hb e => by have e : w8.heap.size ≤ b ∧ b < El := e; omega)
      refine ap_C HPB.out HTY.out hN hn hm hts hnN hM hR hS hF hV hW k0 kW lb0 lb1 lb2 hbk hbn (HK.out.keepB kr (fun b hb e => by have e : w8.heap.size ≤ b ∧ b < El := e; omega)) (HN.out.keepB kr (fun b hb e => by have e : w8.heap.size ≤ b ∧ b < El := e; omega)) hT (fun q hq j x e => ?_) (fun q hq j x e => ?_)
      · unfold gB mkT at e
        rw [if_pos hq] at e
        dsimp only at e
        rw [List.getElem?_map] at e
        obtain ⟨y, hy, rfl⟩ := Option.map_eq_some_iff.1 e
        have := (List.getElem?_eq_some_iff.1 hy).2
        rw [List.getElem_range] at this
        rw [this]
      · unfold gB mkT at e
        rw [if_pos hq] at e
        dsimp only at e
        exact List.eq_of_mem_replicate (List.mem_of_getElem? e)
end Go.Proofs.Ytmnmphkkcabkiaa

namespace Go.Proofs.Ytmnmphkkcabkiaa
open Go.RowKit
set_option maxRecDepth 100000 in
theorem copy_own {t e : TypeId} {z : Value} {size bytes : Nat} (ht : Try.prog.underlying t = some (.slice e)) (hinfo : (Try.prog.info? e).map (fun i => (i.zero, i.size, i.bytes)) = some (some z, size, bytes)) (hz : z.cells.size = size) (hs : 0 < size) {W0 : World} {base k : Nat} {v : Value} {xs : List Value} (hown : W0.ownsRow base e size v k xs) (hb0 : 0 < bytes) (hk : k * bytes ≤ 140737488355328) (h1 : ∀ u ∈ xs, u.oneCell' = true) :
    ∃ v' W', (Builtin.append_ #[t, t] t #[.slice (some ⟨W0.heap.size, 0, none⟩) 0 0, v]).run Try.prog (W0.alloc (.cells #[] e)) = .ok v' W' ∧ W'.ownsRow W0.heap.size e size v' k xs ∧ Keeps (fun _ => False) W0 W' := by
  obtain ⟨i0, hi0, hzz⟩ := Option.map_eq_some_iff.1 hinfo
  simp only [Prod.mk.injEq] at hzz
  obtain ⟨hz0, hz1, hz2⟩ := hzz
  have k0 : Keeps (fun _ => False) W0 (W0.alloc (.cells #[] e)) := (Keeps.refl _ W0).alloc _
  have o0 : (W0.alloc (.cells #[] e)).ownsRow W0.heap.size e size (.slice (some ⟨W0.heap.size, 0, none⟩) 0 0) 0 [] := ⟨by simp, .inr ⟨W0.heap.size, 0, #[], rfl, Nat.le_refl _, heap_new W0 _, Nat.le_refl _, by unfold maxLen; omega, by simp, by simp⟩⟩
  have hk2 : k ≤ 140737488355328 := Nat.le_trans (Nat.le_mul_of_pos_right _ hb0) hk
  have hl := hown.1
  rcases hown.2 with ⟨rfl, h0⟩ | ⟨g, cap, cur, rfl, _⟩
  · subst h0
    obtain rfl : xs = [] := List.length_eq_zero_iff.1 (by simpa using hl)
    exact ⟨_, _, run_append_owned_none (P := Try.prog) (w := W0.alloc (.cells #[] e)) W0.heap.size t t e i0 size ht hi0 _ 0 [] o0, o0, k0⟩
  · have hc := own_cl hown
    obtain ⟨v', w', hr, ho, hgr, _, _⟩ := run_append_own_at (P := Try.prog) (w := W0.alloc (.cells #[] e)) W0.heap.size t t e i0 _ size bytes ht hi0 hz0 hz1 hz2 hz hs _ 0 [] o0 ⟨g, 0, none⟩ k cap xs hl (fun j y hy => by
      rw [add_atT, Nat.zero_add]
      exact k0.cell (hc.c j y hy) (fun e => e)) h1 (by unfold maxLen; omega) (by rw [Nat.zero_add]; exact hk) k0.size
    rw [Nat.zero_add, List.nil_append] at ho
    exact ⟨v', w', hr, ho, k0.trans' ((Keeps.refl _ _).grown hgr (S := fun i => i = W0.heap.size) (fun i _ e => by simp [Value.ownBlock] at e; exact e.symm)) (fun _ _ e => e) (fun i hi e => by omega)⟩
theorem TL.addL {base m : Nat} {W0 W : World} {v sk wk : Value} {ts : List Tv} {sv wv : Nat → Value} {ρ : Nat → Nat} (h : TL base W0 v ts sv wv ρ m) (k : Keeps (fun _ => False) W0 W) (t : Tv) (hs : W.ownsRow W0.heap.size 44 9 sk t.saws.length (scl t.saws)) (hw : W.ownsRow W0.heap.size 46 4 wk t.wrs.length (wcl t.wrs)) (hne : ∀ b, sk.ownBlock = some b → wk.ownBlock = some b → False) (hls : t.saws.length ≤ m ∧ t.wrs.length ≤ m) (hk : (ts.length + 1) * 120 ≤ 140737488355328) :
    ∃ v' w', (Builtin.append_ #[35, 35] 35 #[v, .slice (some ⟨W.heap.size, 0, none⟩) 1 1]).run Try.prog (W.alloc (.cells (t.cells sk wk).toArray 42)) = .ok v' w' ∧ TL base w' v' (ts ++ [t]) (fun i => if i = ts.length then sk else sv i) (fun i => if i = ts.length then wk else wv i) (fun b => if b < W0.heap.size then ρ b else if sk.ownBlock = some b then 2 + 2 * ts.length else if wk.ownBlock = some b then 3 + 2 * ts.length else 1) m ∧ Keeps (fun i => v.ownBlock = some i) W0 w' := by
  have z0 := k.size
  have o1 := k.owns h.o (fun _ _ e => e)
  obtain ⟨asl, csl, es, -⟩ := own_slice hs
  obtain ⟨awl, cwl, ew, -⟩ := own_slice hw
  obtain ⟨v', w', hr, ho, kk, hbl⟩ := append_sz uTx iTxs rfl (by decide) o1 (Nat.le_trans h.bb z0) (by decide) hk (t.cells sk wk) rfl (fun u hu => by
    rw [es, ew] at hu
    unfold Tv.cells at hu
    simp at hu
    rcases hu with rfl | rfl | rfl | rfl | rfl | rfl | rfl | rfl | rfl | rfl | rfl <;> rfl)
  have hlen : (ts ++ [t]).length = ts.length + 1 := by rw [List.length_append]; rfl
  have lb : ∀ b, v.ownBlock = some b → b < W0.heap.size := fun b e => owns_lt' h.o b e
  have hv : ∀ b, v'.ownBlock = some b → (v.ownBlock = some b ∨ b = W.heap.size + 1) := fun b e => by
    rcases hbl with hb | hb
    · exact .inl (hb ▸ e)
    · rw [hb] at e; injection e with e; exact .inr e.symm
  have K := k.trans' kk (U := fun i => v.ownBlock = some i) (fun _ _ e => e.elim) (fun _ _ e => e)
  refine ⟨v', w', hr, ⟨?_, fun i hi => ?_, fun i hi => ?_, fun b e => ?_, fun i hi b e => ?_, fun i hi b e => ?_, fun i hi => ?_, Nat.le_trans h.bb K.size⟩, K⟩
  · unfold tcl
    rw [hlen, gcl_succ, getD_app_right]
    dsimp only
    rw [if_pos rfl, if_pos rfl, gcl_congr (d := fun i => (ts.getD i tv0).cells (sv i) (wv i)) (fun i hi => by rw [getD_app_left hi, if_neg (by omega), if_neg (by omega)])]
    exact ho
  · rw [hlen] at hi
    by_cases e : i = ts.length
    · subst e
      rw [if_pos rfl, getD_app_right]
      exact kk.owns (owns_low hs h.bb) (fun b e1 e2 => by have := owns_baseT hs b e1; have := lb b e2; omega)
    · rw [if_neg e, getD_app_left (by omega)]
      exact K.owns (h.s i (by omega)) (fun b e1 e2 => by have := h.rs i (by omega) b e1; have := h.r0 b e2; omega)
  · rw [hlen] at hi
    by_cases e : i = ts.length
    · subst e
      rw [if_pos rfl, getD_app_right]
      exact kk.owns (owns_low hw h.bb) (fun b e1 e2 => by have := owns_baseT hw b e1; have := lb b e2; omega)
    · rw [if_neg e, getD_app_left (by omega)]
      exact K.owns (h.w i (by omega)) (fun b e1 e2 => by have := h.rw i (by omega) b e1; have := h.r0 b e2; omega)
  · rcases hv b e with h1 | h1
    · rw [if_pos (lb b h1)]
      exact h.r0 b h1
    · rw [if_neg (by omega), if_neg (fun e' => by have := owns_lt' hs b e'; omega), if_neg (fun e' => by have := owns_lt' hw b e'; omega)]
  · rw [hlen] at hi
    by_cases e' : i = ts.length
    · subst e'
      rw [if_pos rfl] at e
      rw [if_neg (by have := owns_baseT hs b e; omega), if_pos e]
    · rw [if_neg e'] at e
      rw [if_pos (owns_lt' (h.s i (by omega)) b e)]
      exact h.rs i (by omega) b e
  · rw [hlen] at hi
    by_cases e' : i = ts.length
    · subst e'
      rw [if_pos rfl] at e
      rw [if_neg (by have := owns_baseT hw b e; omega), if_neg (fun e2 => hne b e2 e), if_pos e]
    · rw [if_neg e'] at e
      rw [if_pos (owns_lt' (h.w i (by omega)) b e)]
      exact h.rw i (by omega) b e
  · rw [hlen] at hi
    by_cases e : i = ts.length
    · subst e
      rw [getD_app_right]
      exact hls
    · rw [getD_app_left (by omega)]
      exact h.ls i (by omega)
theorem one_scl : ∀ (l : List Sw) (u : Value), u ∈ scl l → u.oneCell' = true
  | [], u, h => by cases h
  | q :: l, u, h => by
    rcases List.mem_append.1 (show u ∈ q.cells ++ scl l from h) with h | h
    · unfold Sw.cells at h
      simp at h
      rcases h with rfl | rfl | rfl | rfl | rfl | rfl | rfl | rfl | rfl <;> rfl
    · exact one_scl l u h
theorem one_wcl : ∀ (l : List Wo) (u : Value), u ∈ wcl l → u.oneCell' = true
  | [], u, h => by cases h
  | q :: l, u, h => by
    rcases List.mem_append.1 (show u ∈ q.cells ++ wcl l from h) with h | h
    · unfold Wo.cells at h
      simp at h
      rcases h with rfl | rfl | rfl | rfl <;> rfl
    · exact one_wcl l u h
end Go.Proofs.Ytmnmphkkcabkiaa

