import Derived.Test.YtmnmphkkcabkiaaG17
namespace Go.Proofs.Ytmnmphkkcabkiaa
open Go.RowKit
theorem TL.wr {base m i : Nat} {W W' : World} {v : Value} {ts : List Tv} {sv wv : Nat → Value} {ρ : Nat → Nat} (h : TL base W v ts sv wv ρ m) (hi : i < ts.length) (ss : List Wo) (hl : ss.length = (ts.getD i tv0).wrs.length) (hk : Keeps (fun b => (wv i).ownBlock = some b) W W') (ho : W'.ownsRow base 46 4 (wv i) ss.length (wcl ss)) : TL base W' v (ts.set i { ts.getD i tv0 with wrs := ss }) sv wv ρ m := by
  refine ⟨?_, fun j hj => ?_, fun j hj => ?_, h.r0, fun j hj => ?_, fun j hj => ?_, fun j hj => ?_, Nat.le_trans h.bb hk.size⟩
  · have e : tcl (ts.set i { ts.getD i tv0 with wrs := ss }) sv wv = tcl ts sv wv := by
      unfold tcl
      rw [List.length_set]
      refine gcl_congr (fun j hj => ?_)
      by_cases e : j = i
      · subst e
        rw [getD_set_eq hj]
        rfl
      · rw [getD_set_ne e]
    rw [e, List.length_set]
    exact hk.owns h.o (fun b e1 e2 => by have := h.r0 b e1; have := h.rw i hi b e2; omega)
  · rw [List.length_set] at hj
    have e2 : ((ts.set i { ts.getD i tv0 with wrs := ss }).getD j tv0).saws = (ts.getD j tv0).saws := by
      by_cases e : j = i
      · subst e
        rw [getD_set_eq hj]
      · rw [getD_set_ne e]
    rw [e2]
    exact hk.owns (h.s j hj) (fun b e1 e2 => by have := h.rs j hj b e1; have := h.rw i hi b e2; omega)
  · rw [List.length_set] at hj
    by_cases e : j = i
    · subst e
      rw [getD_set_eq hj]
      exact ho
    · rw [getD_set_ne e]
      exact hk.owns (h.w j hj) (fun b e1 e2 => by have := h.rw j hj b e1; have := h.rw i hi b e2; omega)
  · exact h.rs j (by rw [List.length_set] at hj; exact hj)
  · exact h.rw j (by rw [List.length_set] at hj; exact hj)
  · rw [List.length_set] at hj
    by_cases e : j = i
    · subst e
      rw [getD_set_eq hj]
      have := h.ls j hj
      dsimp only
      omega
    · rw [getD_set_ne e]
      exact h.ls j hj
theorem gcl_at {c : Nat → List Value} {n j : Nat} (hc : ∀ i, i < n → (c i).length = 11) (hj : j < n * 11) : (gcl c n)[j]? = (c (j / 11))[j % 11]? := by
  have hl : j % 11 < (c (j / 11)).length := by rw [hc _ (by omega)]; omega
  have := gcl_get hc (show j / 11 < n by omega) (j % 11) _ (List.getElem?_eq_getElem hl)
  rw [show j / 11 * 11 + j % 11 = j by omega] at this
  rw [this, List.getElem?_eq_getElem hl]
theorem TL.thr {base m i g cap : Nat} {W : World} {ts : List Tv} {sv wv : Nat → Value} {ρ : Nat → Nat} (h : TL base W (.slice (some ⟨g, 0, none⟩) ts.length cap) ts sv wv ρ m) (hi : i < ts.length) (x : Int) : TL base (W.setCell ⟨g, i * 11, none⟩ (.int .i64 x)) (.slice (some ⟨g, 0, none⟩) ts.length cap) (ts.set i { ts.getD i tv0 with thread := x }) sv wv ρ m ∧ Keeps (fun b => b = g) W (W.setCell ⟨g, i * 11, none⟩ (.int .i64 x)) := by
  have hk : Keeps (fun b => b = g) W (W.setCell ⟨g, i * 11, none⟩ (.int .i64 x)) := (Keeps.refl (fun b => b = g) W).setCell (p := ⟨g, i * 11, none⟩) (fun _ => rfl) _
  have hr0 := h.r0 g rfl
  have hgs : ∀ j, ((ts.set i { ts.getD i tv0 with thread := x }).getD j tv0).saws = (ts.getD j tv0).saws ∧ ((ts.set i { ts.getD i tv0 with thread := x }).getD j tv0).wrs = (ts.getD j tv0).wrs := fun j => by
    by_cases e : j = i
    · subst e
      rw [getD_set_eq hi]
      exact ⟨rfl, rfl⟩
    · rw [getD_set_ne e]
      exact ⟨rfl, rfl⟩
  refine ⟨⟨?_, fun j hj => ?_, fun j hj => ?_, h.r0, fun j hj => ?_, fun j hj => ?_, fun j hj => ?_, Nat.le_trans h.bb hk.size⟩, hk⟩
  · have q := (h.o.stored (i * 11) (.int .i64 x)).1
    have e : (tcl ts sv wv).set (i * 11) (.int .i64 x) = tcl (ts.set i { ts.getD i tv0 with thread := x }) sv wv := by
      have hl1 : (tcl ts sv wv).length = ts.length * 11 := gcl_len (fun _ _ => rfl)
      have hl2 : (tcl (ts.set i { ts.getD i tv0 with thread := x }) sv wv).length = ts.length * 11 := by
        unfold tcl
        rw [gcl_len (fun _ _ => rfl), List.length_set]
      refine List.ext_getElem? (fun j => ?_)
      by_cases hj : j < ts.length * 11
      · have e1 : (tcl ts sv wv)[j]? = ((ts.getD (j / 11) tv0).cells (sv (j / 11)) (wv (j / 11)))[j % 11]? := gcl_at (fun _ _ => rfl) hj
        have e2 : (tcl (ts.set i { ts.getD i tv0 with thread := x }) sv wv)[j]? = (((ts.set i { ts.getD i tv0 with thread := x }).getD (j / 11) tv0).cells (sv (j / 11)) (wv (j / 11)))[j % 11]? := gcl_at (fun _ _ => rfl) (by rw [List.length_set]; exact hj)
        rw [List.getElem?_set, e2, e1]
        by_cases c : j / 11 = i
        · rw [c, getD_set_eq hi]
          by_cases c2 : i * 11 = j
          · rw [if_pos c2, if_pos (by omega), show j % 11 = 0 by omega]
            rfl
          · rw [if_neg c2]
            obtain ⟨p, hp⟩ : ∃ p, j % 11 = p + 1 := ⟨j % 11 - 1, by omega⟩
            rw [hp]
            rfl
        · rw [if_neg (by omega), getD_set_ne c]
      · rw [List.getElem?_eq_none (by rw [List.length_set, hl1]; omega), List.getElem?_eq_none (by rw [hl2]; omega)]
    rw [e] at q
    rw [List.length_set]
    exact q
  · rw [List.length_set] at hj
    rw [(hgs j).1]
    exact hk.owns (h.s j hj) (fun b e1 e2 => by have := h.rs j hj b e1; have e2 : b = g := e2; rw [e2] at this; omega)
  · rw [List.length_set] at hj
    rw [(hgs j).2]
    exact hk.owns (h.w j hj) (fun b e1 e2 => by have := h.rw j hj b e1; have e2 : b = g := e2; rw [e2] at this; omega)
  · exact h.rs j (by rw [List.length_set] at hj; exact hj)
  · exact h.rw j (by rw [List.length_set] at hj; exact hj)
  · rw [List.length_set] at hj
    rw [(hgs j).1, (hgs j).2]
    exact h.ls j hj
def tsF (g : Nat → Tv) (n : Nat) : List Tv := (List.range n).map g
theorem tsF_len (g : Nat → Tv) (n : Nat) : (tsF g n).length = n := by unfold tsF; simp
theorem tsF_get {g : Nat → Tv} {n i : Nat} (hi : i < n) : (tsF g n).getD i tv0 = g i := by
  unfold tsF
  rw [List.getD_eq_getElem?_getD, List.getElem?_map, List.getElem?_range hi]
  rfl
theorem tv_ext {a b : List Tv} (hl : a.length = b.length) (h : ∀ i, i < a.length → a.getD i tv0 = b.getD i tv0) : a = b := List.ext_getElem hl (fun i h1 h2 => by
  have := h i h1
  rw [List.getD_eq_getElem?_getD, List.getD_eq_getElem?_getD, List.getElem?_eq_getElem h1, List.getElem?_eq_getElem h2] at this
  exact this)
theorem tsF_set {g : Nat → Tv} {n i : Nat} (hi : i < n) (x : Tv) : (tsF g n).set i x = tsF (fun j => if j = i then x else g j) n := tv_ext (by rw [List.length_set, tsF_len, tsF_len]) (fun j hj => by
  rw [List.length_set, tsF_len] at hj
  rw [tsF_get hj]
  by_cases e : j = i
  · subst e
    rw [getD_set_eq (by rw [tsF_len]; exact hj), if_pos rfl]
  · rw [getD_set_ne e, tsF_get hj, if_neg e])
theorem tsF_congr {g g' : Nat → Tv} {n : Nat} (h : ∀ i, i < n → g i = g' i) : tsF g n = tsF g' n := tv_ext (by rw [tsF_len, tsF_len]) (fun i hi => by rw [tsF_len] at hi; rw [tsF_get hi, tsF_get hi, h i hi])
def mkS (i j : Nat) : Sw := ⟨-1 - (i : Int), -1 - (j : Int), 0, false, false, false, 0, 0, false⟩
def mkW (i : Nat) : Wo := ⟨-1 - (i : Int), 0, 0, false⟩
def mkT (i : Nat) (t : Tv) : Tv := { t with saws := (List.range t.saws.length).map (mkS i), wrs := List.replicate t.wrs.length (mkW i) }
theorem scl_sets : ∀ (l : List Sw) (i : Nat) (x : Sw), i < l.length → sets (scl l) (i * 9) x.cells = scl (l.set i x)
  | [], i, x, h => by simp at h
  | q :: l, 0, x, h => by
    show (q.cells ++ scl l).take 0 ++ x.cells ++ (q.cells ++ scl l).drop 9 = x.cells ++ scl l
    rw [List.take_zero, List.nil_append, List.drop_append_of_le_length (by show 9 ≤ 9; omega)]
    rfl
  | q :: l, i + 1, x, h => by
    have ih := scl_sets l i x (by simpa using h)
    have hx : x.cells.length = 9 := rfl
    have hq : q.cells.length = 9 := rfl
    unfold sets at ih ⊢
    rw [hx] at ih ⊢
    show (q.cells ++ scl l).take ((i + 1) * 9) ++ x.cells ++ (q.cells ++ scl l).drop ((i + 1) * 9 + 9) = q.cells ++ scl (l.set i x)
    have e1 : (q.cells ++ scl l).take ((i + 1) * 9) = q.cells ++ (scl l).take (i * 9) := by
      rw [List.take_append, hq, show (i + 1) * 9 - 9 = i * 9 by omega, List.take_of_length_le (by omega)]
    have e2 : (q.cells ++ scl l).drop ((i + 1) * 9 + 9) = (scl l).drop (i * 9 + 9) := by
      rw [List.drop_append, hq, show (i + 1) * 9 + 9 - 9 = i * 9 + 9 by omega, List.drop_of_length_le (by omega), List.nil_append]
    rw [e1, e2, ← ih, List.append_assoc, List.append_assoc, List.append_assoc]
theorem wcl_sets (l : List Wo) (i : Nat) (x : Wo) (h : i < l.length) : sets (wcl l) (i * 4) x.cells = wcl (l.set i x) := by
  rw [wcl_set l i x h]
  rfl
def mixS (i : Nat) (l : List Sw) (j : Nat) : List Sw := (List.range j).map (mkS i) ++ l.drop j
def mixW (i : Nat) (l : List Wo) (j : Nat) : List Wo := List.replicate j (mkW i) ++ l.drop j
theorem mixS_len {i : Nat} {l : List Sw} {j : Nat} (h : j ≤ l.length) : (mixS i l j).length = l.length := by
  unfold mixS
  rw [List.length_append, List.length_map, List.length_range, List.length_drop]
  omega
theorem mixW_len {i : Nat} {l : List Wo} {j : Nat} (h : j ≤ l.length) : (mixW i l j).length = l.length := by
  unfold mixW
  rw [List.length_append, List.length_replicate, List.length_drop]
  omega
theorem mixS_next {i : Nat} {l : List Sw} {j : Nat} (h : j < l.length) : (mixS i l j).set j (mkS i j) = mixS i l (j + 1) := by
  unfold mixS
  have hl : ((List.range j).map (mkS i)).length = j := by simp
  rw [List.set_append_right _ _ (by omega), hl, Nat.sub_self, List.drop_eq_getElem_cons h, List.set_cons_zero, List.range_succ, List.map_append, List.append_assoc]
  rfl
theorem mixW_next {i : Nat} {l : List Wo} {j : Nat} (h : j < l.length) : (mixW i l j).set j (mkW i) = mixW i l (j + 1) := by
  unfold mixW
  have hl : (List.replicate j (mkW i)).length = j := by simp
  rw [List.set_append_right _ _ (by omega), hl, Nat.sub_self, List.drop_eq_getElem_cons h, List.set_cons_zero, List.replicate_succ', List.append_assoc]
  rfl
theorem mixS_all {i : Nat} {l : List Sw} : mixS i l l.length = (List.range l.length).map (mkS i) := by unfold mixS; rw [List.drop_length, List.append_nil]
theorem mixW_all {i : Nat} {l : List Wo} : mixW i l l.length = List.replicate l.length (mkW i) := by unfold mixW; rw [List.drop_length, List.append_nil]
end Go.Proofs.Ytmnmphkkcabkiaa

namespace Go.Proofs.Ytmnmphkkcabkiaa
open Go.RowKit
theorem wpList_neqG {P : Program} {w : World} {ops : Array Oper} {rest : List Oper} {o : Oper} {a : Act} {Q : Exit → Act → World → Prop} (hw : Region.wanted o (yielded ops a.tmps) = true) (ty t2 : TypeId) (x y : Operand) (ho : o.op = .binOp .neq ty x y t2) (xs ys : Array Value) (hx : a.eval x = .agg xs) (hy : a.eval y = .agg ys) (b : Bool)
    (hm : P.eqGuardType P.depth ty = false) (hr : (Op.equalIn 10000 ty (.agg xs) (.agg ys)).run P w = .ok b w) (h : wpList P ops Q rest (a.put o.dst (.bool (!b))) w) : wpList P ops Q (o :: rest) a w :=
  BigFrame.wpList_want hw fun _ hK => by
    unfold Oper.wp execOp
    simp only [ho, hx, hy, Sem.run_bind, Sem.run_pure, Result.andThen_ok, run_eqGuard_agg _ _ _ _ _ _ _ hm, run_neq_struct, hr]
    exact hK _ _ h
set_option maxHeartbeats 1000000 in
set_option maxRecDepth 100000 in
theorem ap_D {w0 : World} {fa a0 : Option Addr} {N n fc c0 M m : Nat} {s : Int} {lw : List Rw} {ts : List Tv} {F0 G : Nat → V3} {X : World} {a7 a8 a10 al ak an : Option Addr} {c7 c8 c10 cl ck cn bl bk bn : Nat} {sl wl sk wk sn wn : Nat → Value} {ρl ρk ρn : Nat → Nat} {g : Nat → Tv} {x2 x3 x4 x5 x6 x11 x13 x15 x16 x18 x19 x20 x21 x22 x23 x24 x25 x26 x27 x28 x29 x30 x31 x32 x33 x34 x35 x36 x37 x38 x39 x40 x41 x42 x43 x44 x45 x46 x47 x48 x49 x50 x51 x52 x53 x54 x55 x56 x57 x58 x59 x60 x61 x62 x63 x64 x65 x66 x67 x68 x69 x70 x71 x72 x73 x74 x75 x76 x77 x78 x79 x80 x81 x82 x83 x84 x85 x86 x87 x88 x89 x90 x91 x92 x93 x94 x95 x96 x97 x98 x99 x100 x101 x102 x103 x104 x105 x106 x107 x108 x109 x110 x111 x112 x113 x114 x115 x116 x117 x118 x119 x120 x121 x122 x123 x124 x125 x126 x127 x128 x129 x130 x131 x132 x133 x134 x135 x136 x137 x138 x139 x140 x141 x142 x143 x144 x145 x146 x147 x148 x149 x150 x151 x152 x153 x154 x155 x156 x157 x158 x159 x160 x161 x162 x163 x164 x165 x166 x167 x168 x169 x170 x171 x172 x173 x174 x175 x176 x177 x178 x179 x180 x181 x182 x183 x184 x185 x186 x187 x188 x189 x190 x191 x192 x193 x194 x195 x196 x197 x198 x199 x200 x201 x202 x203 x204 x205 x206 x207 x208 x209 x210 x211 x212 x213 x214 x215 x216 x217 x218 x219 x220 x221 x222 x223 x224 x225 x226 x227 x228 x229 x230 x231 x232 x233 x234 x235 x236 x237 x238 x239 x240 x241 x242 x243 x244 x245 x246 x247 x248 x249 x250 x251 x252 x253 x254 x255 x256 x257 x258 x259 x260 x261 x262 x263 x264 x265 x266 x267 x268 x269 x270 x271 x272 x273 x274 x275 x276 x277 x278 x279 x280 x281 x282 x283 x284 x285 x286 x287 x288 x289 x290 x291 x292 x293 x294 x295 x296 x297 x298 x299 x300 x301 x302 x303 x304 x305 x306 x307 x308 x309 x310 x311 x312 x313 x314 x315 x316 x317 x318 x319 x320 x321 x322 x323 x324 x325 x326 x327 x328 x329 x330 x331 x332 x333 x334 x335 x336 x337 x338 x339 x340 x341 x342 x343 x344 x345 x346 x347 x348 x349 x350 x351 x352 x353 x354 x355 x356 x357 x358 x359 x360 x361 x362 x363 x364 x365 x366 x367 x368 : Value} (HPA : ∀ W, Keeps (fun _ => False) w0 W → Calls Try.prog 11 #[.slice fa M fc, .slice a0 N c0, .int .i64 s] W fun e w' => ∃ v, e = .returned (.tuple #[v, .int .i64 0]) ∧ w'.ownsRow W.heap.size 27 3 v M (gvl G M) ∧ Keeps (fun _ => False) W w') (HTX : ∀ W, Keeps (fun _ => False) w0 W → Calls Try.prog 12 #[.slice a0 N c0] W fun e w' => ∃ base lv sv wv ρ, e = .returned (.tuple #[lv, .int .i64 0]) ∧ W.heap.size ≤ base ∧ TL base w' lv ts sv wv ρ m ∧ Keeps (fun _ => False) W w') (hN : lw.length = N) (hn : N ≤ 980000000000) (hm : m ≤ 980000000000) (hts : ts.length = n) (hnN : n ≤ N) (hM : M ≤ 5864062014805) (hR : RSL X a0 lw) (hS : RSL X a7 lw) (hF : VS X fa M F0) (hV : VS X a8 M F0) (hW : VS X a10 M G) (kX : Keeps (fun _ => False) w0 X) (hk : TL bk X (.slice ak n ck) ts sk wk ρk m) (hnn : TL bn X (.slice an n cn) ts sn wn ρn m) (hl : TL bl X (.slice al n cl) (tsF g n) sl wl ρl m) (hg1 : ∀ i, i < n → ∀ (j : Nat) x, (g i).saws[j]? = some x → x = mkS i j) (hg2 : ∀ i, i < n → ∀ (j : Nat) x, (g i).wrs[j]? = some x → x = mkW i) : (apT 16 Try.f5).wp Try.prog (bodyPost Try.prog Try.f5 (fun e w' => e = .returned (.bool true) ∧ Below w0.heap.size w0 w')) { tmps := #[.slice a0 N c0, .slice fa M fc, x2, x3, x4, x5, x6, .slice a7 N c7, .slice a8 M c8, .int .i64 s, .slice a10 M c10, x11, .slice al n cl, x13, .slice ak n ck, x15, x16, .slice an n cn, x18, x19, x20, x21, x22, x23, x24, x25, x26, x27, x28, x29, x30, x31, x32, x33, x34, x35, x36, x37, x38, x39, x40, x41, x42, x43, x44, x45, x46, x47, x48, x49, x50, x51, x52, x53, x54, x55, x56, x57, x58, x59, x60, x61, x62, x63, x64, x65, x66, x67, x68, x69, x70, x71, x72, x73, x74, x75, x76, x77, x78, x79, x80, x81, x82, x83, x84, x85, x86, x87, x88, x89, x90, x91, x92, x93, x94, x95, x96, x97, x98, x99, x100, x101, x102, x103, x104, x105, x106, x107, x108, x109, x110, x111, x112, x113, x114, x115, x116, x117, x118, x119, x120, x121, x122, x123, x124, x125, x126, x127, x128, x129, x130, x131, x132, x133, x134, x135, x136, x137, x138, x139, x140, x141, x142, x143, x144, x145, x146, x147, x148, x149, x150, x151, x152, x153, x154, x155, x156, x157, x158, x159, x160, x161, x162, x163, x164, x165, x166, x167, x168, x169, x170, x171, x172, x173, x174, x175, x176, x177, x178, x179, x180, x181, x182, x183, x184, x185, x186, x187, x188, x189, x190, x191, x192, x193, x194, x195, x196, x197, x198, x199, x200, x201, x202, x203, x204, x205, x206, x207, x208, x209, x210, x211, x212, x213, x214, x215, x216, x217, x218, x219, x220, x221, x222, x223, x224, x225, x226, x227, x228, x229, x230, x231, x232, x233, x234, x235, x236, x237, x238, x239, x240, x241, x242, x243, x244, x245, x246, x247, x248, x249, x250, x251, x252, x253, x254, x255, x256, x257, x258, x259, x260, x261, x262, x263, x264, x265, x266, x267, x268, x269, x270, x271, x272, x273, x274, x275, x276, x277, x278, x279, x280, x281, x282, x283, x284, x285, x286, x287, x288, x289, x290, x291, x292, x293, x294, x295, x296, x297, x298, x299, x300, x301, x302, x303, x304, x305, x306, x307, x308, x309, x310, x311, x312, x313, x314, x315, x316, x317, x318, x319, x320, x321, x322, x323, x324, x325, x326, x327, x328, x329, x330, x331, x332, x333, x334, x335, x336, x337, x338, x339, x340, x341, x342, x343, x344, x345, x346, x347, x348, x349, x350, x351, x352, x353, x354, x355, x356, x357, x358, x359, x360, x361, x362, x363, x364, x365, x366, x367, x368], defers := [] } X := by
  have HLL : Hid (TL bl X (.slice al n cl) (tsF g n) sl wl ρl m) := hl
  have HG1 : Hid (∀ i, i < n → ∀ (j : Nat) x, (g i).saws[j]? = some x → x = mkS i j) := hg1
  have HG2 : Hid (∀ i, i < n → ∀ (j : Nat) x, (g i).wrs[j]? = some x → x = mkW i) := hg2
  have HK : Hid (TL bk X (.slice ak n ck) ts sk wk ρk m) := hk
  have HN : Hid (TL bn X (.slice an n cn) ts sn wn ρn m) := hnn
  have HPB : Hid (∀ W, Keeps (fun _ => False) w0 W → Calls Try.prog 11 #[.slice fa M fc, .slice a0 N c0, .int .i64 s] W fun e w' => ∃ v, e = .returned (.tuple #[v, .int .i64 0]) ∧ w'.ownsRow W.heap.size 27 3 v M (gvl G M) ∧ Keeps (fun _ => False) W w') := HPA
  have HTY : Hid (∀ W, Keeps (fun _ => False) w0 W → Calls Try.prog 12 #[.slice a0 N c0] W fun e w' => ∃ base lv sv wv ρ, e = .returned (.tuple #[lv, .int .i64 0]) ∧ W.heap.size ≤ base ∧ TL base w' lv ts sv wv ρ m ∧ Keeps (fun _ => False) W w') := HTX
  have HCO : Hid ((lw.length = N) ∧ (ts.length = n) ∧ RSL X a0 lw ∧ RSL X a7 lw ∧ VS X fa M F0 ∧ VS X a8 M F0 ∧ VS X a10 M G ∧ Keeps (fun _ => False) w0 X) := ⟨hN, hts, hR, hS, hF, hV, hW, kX⟩
  clear hl hg1 hg2 hk hnn HPA HTX hN hts hR hS hF hV hW kX
  dsimp only [apT, seqTail, Try.f5]
  refine wp_seq_k (fun KK hKK => ?_)
  have hKH : Hid _ := hKK
  clear hKK
  go_wp2_with fail
  go_loopw [23, 24, 25] (fun iv _ _ Wr => ∃ i : Nat, iv = .int .i64 (i : Int) ∧ i ≤ n ∧ Wr = X) (fun iv _ _ _ => n - (intOf iv).toNat)
  case atStart => exact ⟨0, rfl, Nat.zero_le _, rfl⟩
  case round =>
    obtain ⟨i, rfl, hi, rfl⟩ := hrel
    by_cases hlt : i < n
    · have j1 : decide ((i : Int) < (n : Int)) = true := decide_eq_true (by omega)
      have j2 : decide (i < n) = true := decide_eq_true hlt
      have j3 : (i : Int) < (n : Int) := by omega
      have j4 : (0 : Int) ≤ (i : Int) := by omega
      have hwi : IntKind.i64.wrap ((i : Int) + 1) = (i : Int) + 1 := by rw [IntKind.wrap_i64]; omega
      have hwm : IntKind.i64.wrap (-1 - (i : Int)) = -1 - (i : Int) := by rw [IntKind.wrap_i64]; omega
      have hit : i < (tsF g n).length := by rw [tsF_len]; exact hlt
      obtain ⟨gl, rfl⟩ : ∃ gl, al = some ⟨gl, 0, none⟩ := by
        rcases HLL.out.o.2 with ⟨_, h0⟩ | ⟨g', _, _, e, _⟩
        · rw [tsF_len] at h0; omega
        · injection e with e _ _
          exact ⟨g', e⟩
      have hcl := own_cl (tsF_len g n ▸ HLL.out.o)
      have c9 := hcl.c _ _ (gcl_get (c := fun i => ((tsF g n).getD i tv0).cells (sl i) (wl i)) (fun _ _ => rfl) hit 9 (sl i) rfl)
      have c10' := hcl.c _ _ (gcl_get (c := fun i => ((tsF g n).getD i tv0).cells (sl i) (wl i)) (fun _ _ => rfl) hit 10 (wl i) rfl)
      have hso := HLL.out.s i hit
      have hwo := HLL.out.w i hit
      have hls := HLL.out.ls i hit
      rw [tsF_get hlt] at hso hwo hls
      have hm1 := HG1.out i hlt
      have hm2 := HG2.out i hlt
      obtain ⟨sa, cs, es, hSW, -⟩ := swl_of hso
      obtain ⟨aw, cw, ew, hWR, -⟩ := wrl_of hwo
      rw [es] at c9
      rw [ew] at c10'
      clear hcl hso hwo hit es ew
      generalize (g i).saws = SS at *
      generalize (g i).wrs = WW at *
      generalize hns : SS.length = ns at *
      generalize hnw : WW.length = nw at *
      go_wp2_with fail
      go_loopw [24] (fun jv Wr => ∃ j : Nat, jv = .int .i64 (j : Int) ∧ j ≤ ns ∧ Wr = wr) (fun jv _ => ns - (intOf jv).toNat)
      case atStart => exact ⟨0, rfl, Nat.zero_le _, rfl⟩
      case round =>
        obtain ⟨j, rfl, hj, rfl⟩ := hrel
        by_cases hjt : j < ns
        · have l1 : decide ((j : Int) < (ns : Int)) = true := decide_eq_true (by omega)
          have l2 : decide (j < ns) = true := decide_eq_true hjt
          have l3 : (j : Int) < (ns : Int) := by omega
          have l4 : (0 : Int) ≤ (j : Int) := by omega
          have hwj : IntKind.i64.wrap ((j : Int) + 1) = (j : Int) + 1 := by rw [IntKind.wrap_i64]; omega
          have hwn : IntKind.i64.wrap (-1 - (j : Int)) = -1 - (j : Int) := by rw [IntKind.wrap_i64]; omega
          obtain ⟨x, hx⟩ : ∃ x, SS[j]? = some x := ⟨_, List.getElem?_eq_getElem (by omega)⟩
          obtain rfl := hm1 j x hx
          obtain ⟨gs, rfl, hcs⟩ := hSW j _ hx
          have hRs := run_swAt (b := gs) (o := j * 9) (s := mkS i j) hcs
          clear hcs hx
          go_wp2_with (first | (refine wpList_load_run rfl 44 _ rfl ⟨gs, j * 9, none⟩ rfl _ hRs ?_; clear hRs) | (refine wpList_neqG (by kernel_rfl) 44 _ _ _ rfl (mkS i j).cells.toArray (mkS i j).cells.toArray rfl rfl true (by kernel_rfl) (eql_sw (mkS i j) _) ?_; (try simp only [Act.put, List.setIfInBounds_toArray, List.set_cons_zero, List.set_cons_succ])))
          go_roundw
          case rel => exact ⟨j + 1, by go_num, by omega, trivial⟩
          case measure => simp [intOf]; omega
        · have l1 : decide ((j : Int) < (ns : Int)) = false := decide_eq_false (by omega)
          have l2 : decide (j < ns) = false := decide_eq_false hjt
          go_wp2_with fail
          go_loopw [25] (fun jv Wr => ∃ j : Nat, jv = .int .i64 (j : Int) ∧ j ≤ nw ∧ Wr = wr) (fun jv _ => nw - (intOf jv).toNat)
          case atStart => exact ⟨0, rfl, Nat.zero_le _, rfl⟩
          case round =>
            clear l1 l2 hjt hj
            obtain ⟨j9, rfl, hj, rfl⟩ := hrel
            by_cases hjt : j9 < nw
            · have l1 : decide ((j9 : Int) < (nw : Int)) = true := decide_eq_true (by omega)
              have l2 : decide (j9 < nw) = true := decide_eq_true hjt
              have l3 : (j9 : Int) < (nw : Int) := by omega
              have l4 : (0 : Int) ≤ (j9 : Int) := by omega
              have hwj : IntKind.i64.wrap ((j9 : Int) + 1) = (j9 : Int) + 1 := by rw [IntKind.wrap_i64]; omega
              obtain ⟨x, hx⟩ : ∃ x, WW[j9]? = some x := ⟨_, List.getElem?_eq_getElem (by omega)⟩
              obtain rfl := hm2 j9 x hx
              obtain ⟨gs, rfl, hcs⟩ := hWR j9 _ hx
              have hRs := run_woAt (b := gs) (o := j9 * 4) (s := mkW i) hcs
              clear hcs hx
              go_wp2_with (first | (refine wpList_load_run rfl 46 _ rfl ⟨gs, j9 * 4, none⟩ rfl _ hRs ?_; clear hRs) | (refine wpList_neqG (by kernel_rfl) 46 _ _ _ rfl (mkW i).cells.toArray (mkW i).cells.toArray rfl rfl true (by kernel_rfl) (eql_wo (mkW i) _) ?_; (try simp only [Act.put, List.setIfInBounds_toArray, List.set_cons_zero, List.set_cons_succ])))
              go_roundw
              case rel => exact ⟨j9 + 1, by go_num, by omega, trivial⟩
              case measure => simp [intOf]; omega
            · have l1 : decide ((j9 : Int) < (nw : Int)) = false := decide_eq_false (by omega)
              have l2 : decide (j9 < nw) = false := decide_eq_false hjt
              go_wp2_with fail
              go_roundw
              case rel => exact ⟨i + 1, by go_num, by omega, trivial⟩
              case measure => simp [intOf]; omega
    · have j1 : decide ((i : Int) < (n : Int)) = false := decide_eq_false (by omega)
      have j2 : decide (i < n) = false := decide_eq_false hlt
      go_wp2_with fail
      refine hKH.out _ _ ?_
      obtain ⟨hN, hts, hR, hS, hF, hV, hW, kX⟩ := HCO.out
      exact ap_E HPB.out HTY.out hN hn hm hts hnN hM hR hS hF hV hW kX HK.out HN.out
end Go.Proofs.Ytmnmphkkcabkiaa

namespace Go.Proofs.Ytmnmphkkcabkiaa
open Go.RowKit
attribute [local go_sem] Oper.semAt_some run_store_nf run_store_f
theorem wpList_store_c2 {w : World} {ops : Array Oper} {rest : List Oper} {o : Oper} {a : Act} {Q : Exit → Act → World → Prop} (hgd : o.guard = none) (hd : o.dst = none) (ty : TypeId) (ht : ty = 3 ∨ ty = 2) (x y : Operand) (ho : o.op = .store ty x y) (b off : Nat) (hx : a.eval x = .pointer (some ⟨b, off, none⟩)) (v : Int) (hy : a.eval y = .int .i64 v)
    {l : List Value} (hB : CL w b l) (hl : off < l.length) (h : ∀ w1, Hid (w1 = w.setCell ⟨b, off, none⟩ (.int .i64 v)) → wpList Try.prog ops Q rest a w1) : wpList Try.prog ops Q (o :: rest) a w :=
  wpList_plain hgd fun _ hK => by
    unfold Oper.wp execOp
    simp only [ho, hx, hy, Instr.storeAt, Instr.sureAddr, Sem.run_bind, Sem.run_pure, Result.andThen_ok, run_store_one ht (by rw [hB.c off _ (List.getElem?_eq_getElem hl)]; rfl) (hB.z off hl) v]
    refine hK _ _ ?_
    rw [hd]
    exact h _ (show _ = _ from rfl)
theorem wpList_build2 {t e : TypeId} {z : Value} {size bytes : Nat} (ht : Try.prog.underlying t = some (.slice e)) (hinfo : (Try.prog.info? e).map (fun i => (i.zero, i.size, i.bytes)) = some (some z, size, bytes)) (hs : 0 < size) (hs2 : size ≤ 100) {ops : Array Oper} {rest : List Oper} {o : Oper} {a : Act} {w : World} {Q : Exit → Act → World → Prop} (hg : o.guard = none) (x y : Operand) (ho : o.op = .buildSlice t 2 #[(0, x), (1, y)]) (cs ds : List Value) (hc : cs.length = size) (hd : ds.length = size) (hx : a.eval x = .agg cs.toArray) (hy : a.eval y = .agg ds.toArray)
    (h : wpList Try.prog ops Q rest (a.put o.dst (.slice (some ⟨w.heap.size, 0, none⟩) 2 2)) (w.alloc (.cells (cs ++ ds).toArray e))) : wpList Try.prog ops Q (o :: rest) a w := by
  obtain ⟨i0, hi0, hzz⟩ := Option.map_eq_some_iff.1 hinfo
  simp only [Prod.mk.injEq] at hzz
  obtain ⟨hz0, hz1, -⟩ := hzz
  refine wpList_buildSlice hg t e 2 _ ho (cs ++ ds).toArray i0 _ ht hi0 hz0 (by rw [hz1]; omega) (by rw [hz1]; omega) ?_ h
  rw [hz1]
  have e : (#[(0, x), (1, y)].map fun (i, x) => (i, a.eval x)).toList = ([Value.agg cs.toArray, Value.agg ds.toArray].zipIdx 0).map fun x => (x.2, x.1) := by simp [hx, hy]
  have e2 : ([Value.agg cs.toArray, Value.agg ds.toArray].flatMap fun v => v.cells.toList).toArray = (cs ++ ds).toArray := by simp [Value.cells]
  rw [e, Great.fill_whole (s := size) hs [Value.agg cs.toArray, Value.agg ds.toArray] _ (fun v hv => by
    simp at hv
    rcases hv with rfl | rfl
    · simpa [Value.cells] using hc
    · simpa [Value.cells] using hd) (by simp), e2]
def apS (x : Int) : Sw := ⟨x, 0, 0, false, false, false, 0, 0, false⟩
def apW (x : Int) : Wo := ⟨x, 0, 0, false⟩
set_option maxHeartbeats 1000000 in
set_option maxRecDepth 100000 in
theorem ap_C {w0 : World} {fa a0 : Option Addr} {N n fc c0 M m : Nat} {s : Int} {lw : List Rw} {ts : List Tv} {F0 G : Nat → V3} {w8 X : World} {a7 a8 a10 al ak an : Option Addr} {c7 c8 c10 cl ck cn bl bk bn El : Nat} {sl wl sk wk sn wn : Nat → Value} {ρl ρk ρn : Nat → Nat} {g : Nat → Tv} {x2 x3 x4 x5 x6 x11 x13 x15 x16 x18 x19 x20 x21 x22 x23 x24 x25 x26 x27 x28 x29 x30 x31 x32 x33 x34 x35 x36 x37 x38 x39 x40 x41 x42 x43 x44 x45 x46 x47 x48 x49 x50 x51 x52 x53 x54 x55 x56 x57 x58 x59 x60 x61 x62 x63 x64 x65 x66 x67 x68 x69 x70 x71 x72 x73 x74 x75 x76 x77 x78 x79 x80 x81 x82 x83 x84 x85 x86 x87 x88 x89 x90 x91 x92 x93 x94 x95 x96 x97 x98 x99 x100 x101 x102 x103 x104 x105 x106 x107 x108 x109 x110 x111 x112 x113 x114 x115 x116 x117 x118 x119 x120 x121 x122 x123 x124 x125 x126 x127 x128 x129 x130 x131 x132 x133 x134 x135 x136 x137 x138 x139 x140 x141 x142 x143 x144 x145 x146 x147 x148 x149 x150 x151 x152 x153 x154 x155 x156 x157 x158 x159 x160 x161 x162 x163 x164 x165 x166 x167 x168 x169 x170 x171 x172 x173 x174 x175 x176 x177 x178 x179 x180 x181 x182 x183 x184 x185 x186 x187 x188 x189 x190 x191 x192 x193 x194 x195 x196 x197 x198 x199 x200 x201 x202 x203 x204 x205 x206 x207 x208 x209 x210 x211 x212 x213 x214 x215 x216 x217 x218 x219 x220 x221 x222 x223 x224 x225 x226 x227 x228 x229 x230 x231 x232 x233 x234 x235 x236 x237 x238 x239 x240 x241 x242 x243 x244 x245 x246 x247 x248 x249 x250 x251 x252 x253 x254 x255 x256 x257 x258 x259 x260 x261 x262 x263 x264 x265 x266 x267 x268 x269 x270 x271 x272 x273 x274 x275 x276 x277 x278 x279 x280 x281 x282 x283 x284 x285 x286 x287 x288 x289 x290 x291 x292 x293 x294 x295 x296 x297 x298 x299 x300 x301 x302 x303 x304 x305 x306 x307 x308 x309 x310 x311 x312 x313 x314 x315 x316 x317 x318 x319 x320 x321 x322 x323 x324 x325 x326 x327 x328 x329 x330 x331 x332 x333 x334 x335 x336 x337 x338 x339 x340 x341 x342 x343 x344 x345 x346 x347 x348 x349 x350 x351 x352 x353 x354 x355 x356 x357 x358 x359 x360 x361 x362 x363 x364 x365 x366 x367 x368 : Value} (HPA : ∀ W, Keeps (fun _ => False) w0 W → Calls Try.prog 11 #[.slice fa M fc, .slice a0 N c0, .int .i64 s] W fun e w' => ∃ v, e = .returned (.tuple #[v, .int .i64 0]) ∧ w'.ownsRow W.heap.size 27 3 v M (gvl G M) ∧ Keeps (fun _ => False) W w') (HTX : ∀ W, Keeps (fun _ => False) w0 W → Calls Try.prog 12 #[.slice a0 N c0] W fun e w' => ∃ base lv sv wv ρ, e = .returned (.tuple #[lv, .int .i64 0]) ∧ W.heap.size ≤ base ∧ TL base w' lv ts sv wv ρ m ∧ Keeps (fun _ => False) W w') (hN : lw.length = N) (hn : N ≤ 980000000000) (hm : m ≤ 980000000000) (hts : ts.length = n) (hnN : n ≤ N) (hM : M ≤ 5864062014805) (hR : RSL w8 a0 lw) (hS : RSL w8 a7 lw) (hF : VS w8 fa M F0) (hV : VS w8 a8 M F0) (hW : VS w8 a10 M G) (k0 : Keeps (fun _ => False) w0 w8) (kX : Keeps (fun _ => False) w8 X) (hb0 : ∀ b, (Value.slice al n cl).ownBlock = some b → w8.heap.size ≤ b ∧ b < El) (hb1 : ∀ i, i < n → ∀ b, (sl i).ownBlock = some b → w8.heap.size ≤ b ∧ b < El) (hb2 : ∀ i, i < n → ∀ b, (wl i).ownBlock = some b → w8.heap.size ≤ b ∧ b < El) (hbk : El ≤ bk) (hbn : El ≤ bn) (hk : TL bk X (.slice ak n ck) ts sk wk ρk m) (hnn : TL bn X (.slice an n cn) ts sn wn ρn m) (hl : TL bl X (.slice al n cl) (tsF g n) sl wl ρl m) (hg1 : ∀ i, i < n → ∀ (j : Nat) x, (g i).saws[j]? = some x → x = mkS i j) (hg2 : ∀ i, i < n → ∀ (j : Nat) x, (g i).wrs[j]? = some x → x = mkW i) : (apT 15 Try.f5).wp Try.prog (bodyPost Try.prog Try.f5 (fun e w' => e = .returned (.bool true) ∧ Below w0.heap.size w0 w')) { tmps := #[.slice a0 N c0, .slice fa M fc, x2, x3, x4, x5, x6, .slice a7 N c7, .slice a8 M c8, .int .i64 s, .slice a10 M c10, x11, .slice al n cl, x13, .slice ak n ck, x15, x16, .slice an n cn, x18, x19, x20, x21, x22, x23, x24, x25, x26, x27, x28, x29, x30, x31, x32, x33, x34, x35, x36, x37, x38, x39, x40, x41, x42, x43, x44, x45, x46, x47, x48, x49, x50, x51, x52, x53, x54, x55, x56, x57, x58, x59, x60, x61, x62, x63, x64, x65, x66, x67, x68, x69, x70, x71, x72, x73, x74, x75, x76, x77, x78, x79, x80, x81, x82, x83, x84, x85, x86, x87, x88, x89, x90, x91, x92, x93, x94, x95, x96, x97, x98, x99, x100, x101, x102, x103, x104, x105, x106, x107, x108, x109, x110, x111, x112, x113, x114, x115, x116, x117, x118, x119, x120, x121, x122, x123, x124, x125, x126, x127, x128, x129, x130, x131, x132, x133, x134, x135, x136, x137, x138, x139, x140, x141, x142, x143, x144, x145, x146, x147, x148, x149, x150, x151, x152, x153, x154, x155, x156, x157, x158, x159, x160, x161, x162, x163, x164, x165, x166, x167, x168, x169, x170, x171, x172, x173, x174, x175, x176, x177, x178, x179, x180, x181, x182, x183, x184, x185, x186, x187, x188, x189, x190, x191, x192, x193, x194, x195, x196, x197, x198, x199, x200, x201, x202, x203, x204, x205, x206, x207, x208, x209, x210, x211, x212, x213, x214, x215, x216, x217, x218, x219, x220, x221, x222, x223, x224, x225, x226, x227, x228, x229, x230, x231, x232, x233, x234, x235, x236, x237, x238, x239, x240, x241, x242, x243, x244, x245, x246, x247, x248, x249, x250, x251, x252, x253, x254, x255, x256, x257, x258, x259, x260, x261, x262, x263, x264, x265, x266, x267, x268, x269, x270, x271, x272, x273, x274, x275, x276, x277, x278, x279, x280, x281, x282, x283, x284, x285, x286, x287, x288, x289, x290, x291, x292, x293, x294, x295, x296, x297, x298, x299, x300, x301, x302, x303, x304, x305, x306, x307, x308, x309, x310, x311, x312, x313, x314, x315, x316, x317, x318, x319, x320, x321, x322, x323, x324, x325, x326, x327, x328, x329, x330, x331, x332, x333, x334, x335, x336, x337, x338, x339, x340, x341, x342, x343, x344, x345, x346, x347, x348, x349, x350, x351, x352, x353, x354, x355, x356, x357, x358, x359, x360, x361, x362, x363, x364, x365, x366, x367, x368], defers := [] } X := by
  have HG1 : Hid (∀ i, i < n → ∀ (j : Nat) x, (g i).saws[j]? = some x → x = mkS i j) := hg1
  have HG2 : Hid (∀ i, i < n → ∀ (j : Nat) x, (g i).wrs[j]? = some x → x = mkW i) := hg2
  have HK : Hid (TL bk X (.slice ak n ck) ts sk wk ρk m) := hk
  have HN : Hid (TL bn X (.slice an n cn) ts sn wn ρn m) := hnn
  have HPB : Hid (∀ W, Keeps (fun _ => False) w0 W → Calls Try.prog 11 #[.slice fa M fc, .slice a0 N c0, .int .i64 s] W fun e w' => ∃ v, e = .returned (.tuple #[v, .int .i64 0]) ∧ w'.ownsRow W.heap.size 27 3 v M (gvl G M) ∧ Keeps (fun _ => False) W w') := HPA
  have HTY : Hid (∀ W, Keeps (fun _ => False) w0 W → Calls Try.prog 12 #[.slice a0 N c0] W fun e w' => ∃ base lv sv wv ρ, e = .returned (.tuple #[lv, .int .i64 0]) ∧ W.heap.size ≤ base ∧ TL base w' lv ts sv wv ρ m ∧ Keeps (fun _ => False) W w') := HTX
  have HCO : Hid ((lw.length = N) ∧ (ts.length = n) ∧ RSL w8 a0 lw ∧ RSL w8 a7 lw ∧ VS w8 fa M F0 ∧ VS w8 a8 M F0 ∧ VS w8 a10 M G ∧ Keeps (fun _ => False) w0 w8 ∧ Keeps (fun _ => False) w8 X) := ⟨hN, hts, hR, hS, hF, hV, hW, k0, kX⟩
  clear hg1 hg2 hk hnn HPA HTX hN hts hR hS hF hV hW k0 kX
  dsimp only [apT, seqTail, Try.f5]
  refine wp_seq_k (fun KK hKK => ?_)
  have hKH : Hid _ := hKK
  clear hKK
  go_wp2_with fail
  go_loopw [22] (fun iv Wr => ∃ (i : Nat) (g9 : Nat → Tv), iv = .int .i64 (i : Int) ∧ i ≤ n ∧ TL bl Wr (.slice al n cl) (tsF g9 n) sl wl ρl m ∧ (∀ j, j < n → (g9 j).saws = (g j).saws ∧ (g9 j).wrs = (g j).wrs) ∧ Keeps (fun b => w8.heap.size ≤ b ∧ b < El) X Wr) (fun iv _ => n - (intOf iv).toNat)
  case atStart => exact ⟨0, g, rfl, Nat.zero_le _, hl, fun _ _ => ⟨rfl, rfl⟩, Keeps.refl _ _⟩
  case round =>
    obtain ⟨i, g9, rfl, hi, hT, hgg, kr⟩ := hrel
    clear hl
    by_cases hlt : i < n
    · have j1 : decide ((i : Int) < (n : Int)) = true := decide_eq_true (by omega)
      have j2 : decide (i < n) = true := decide_eq_true hlt
      have j3 : (i : Int) < (n : Int) := by omega
      have j4 : (0 : Int) ≤ (i : Int) := by omega
      have hwi : IntKind.i64.wrap ((i : Int) + 1) = (i : Int) + 1 := by rw [IntKind.wrap_i64]; omega
      have v1 : IntKind.i64.wrap (-100 - (i : Int)) = -100 - (i : Int) := by rw [IntKind.wrap_i64]; omega
      have v2 : IntKind.i64.wrap (-200 - (i : Int)) = -200 - (i : Int) := by rw [IntKind.wrap_i64]; omega
      have v3 : IntKind.i64.wrap (-300 - (i : Int)) = -300 - (i : Int) := by rw [IntKind.wrap_i64]; omega
      have v4 : IntKind.i64.wrap (-400 - (i : Int)) = -400 - (i : Int) := by rw [IntKind.wrap_i64]; omega
      obtain ⟨gl, rfl⟩ : ∃ gl, al = some ⟨gl, 0, none⟩ := by
        rcases hT.o.2 with ⟨_, h0⟩ | ⟨g', _, _, e, _⟩
        · rw [tsF_len] at h0; omega
        · injection e with e _ _
          exact ⟨g', e⟩
      have hcl := own_cl (tsF_len g9 n ▸ hT.o)
      have hlen : i * 11 < (tcl (tsF g9 n) sl wl).length := by
        have : (tcl (tsF g9 n) sl wl).length = (tsF g9 n).length * 11 := gcl_len (fun _ _ => rfl)
        rw [this, tsF_len]
        omega
      -- the thread
      have HT1 : Hid (TL bl (wr.setCell ⟨gl, i * 11, none⟩ (.int .i64 (-7))) (.slice (some ⟨gl, 0, none⟩) n cl) (tsF (fun j => if j = i then { g9 i with thread := -7 } else g9 j) n) sl wl ρl m ∧ Keeps (fun b => b = gl) wr (wr.setCell ⟨gl, i * 11, none⟩ (.int .i64 (-7)))) := by
        have q0 : TL bl wr (.slice (some ⟨gl, 0, none⟩) (tsF g9 n).length cl) (tsF g9 n) sl wl ρl m := by rw [tsF_len]; exact hT
        have hit9 : i < (tsF g9 n).length := by rw [tsF_len]; exact hlt
        have q := q0.thr hit9 (-7)
        rw [tsF_len, tsF_get hlt, tsF_set hlt] at q
        exact q
      obtain ⟨hT1, k1⟩ := HT1.out
      have hgg1 : ∀ j, j < n → ((fun j => if j = i then { g9 i with thread := -7 } else g9 j) j).saws = (g j).saws ∧ ((fun j => if j = i then { g9 i with thread := -7 } else g9 j) j).wrs = (g j).wrs := fun j hj => by
        by_cases e : j = i
        · subst e
          simp only [if_pos]
          exact hgg j hj
        · simp only [if_neg e]
          exact hgg j hj
      obtain ⟨W1, hW1⟩ : ∃ W1, W1 = wr.setCell ⟨gl, i * 11, none⟩ (.int .i64 (-7)) := ⟨_, rfl⟩
      rw [← hW1] at hT1 k1
      generalize (fun j => if j = i then { g9 i with thread := -7 } else g9 j) = g1 at hT1 hgg1
      clear hT hgg HT1
      have hit : i < (tsF g1 n).length := by rw [tsF_len]; exact hlt
      have hcl1 := own_cl (tsF_len g1 n ▸ hT1.o)
      have c9 := hcl1.c _ _ (gcl_get (c := fun i => ((tsF g1 n).getD i tv0).cells (sl i) (wl i)) (fun _ _ => rfl) hit 9 (sl i) rfl)
      have hso := hT1.s i hit
      have hls := hT1.ls i hit
      have zb := hT1.bb
      obtain ⟨v2', W2, hr2, ho2, k2⟩ := append_stay uSw iSw rfl (by decide) hso zb (by decide) (by omega) ((apS (-100 - (i : Int))).cells ++ (apS (-200 - (i : Int))).cells) rfl (fun u hu => by
        rcases List.mem_append.1 hu with h | h <;> (unfold Sw.cells at h; simp at h; rcases h with rfl | rfl | rfl | rfl | rfl | rfl | rfl | rfl | rfl <;> rfl))
      have hT2 := hT1.saw hit ((tsF g1 n).getD i tv0).saws rfl k2 ho2
      have e2 : (tsF g1 n).set i { (tsF g1 n).getD i tv0 with saws := ((tsF g1 n).getD i tv0).saws } = tsF g1 n := by
        rw [tsF_get hlt, tsF_set hlt]
        exact tsF_congr (fun j _ => by
          by_cases e : j = i
          · rw [if_pos e, e]
          · rw [if_neg e])
      rw [e2] at hT2
      have hcl2 := own_cl (tsF_len g1 n ▸ hT2.o)
      have c10' := hcl2.c _ _ (gcl_get (c := fun i => ((tsF g1 n).getD i tv0).cells (sl i) (wl i)) (fun _ _ => rfl) hit 10 (wl i) rfl)
      have hwo := hT2.w i hit
      obtain ⟨v3', W3, hr3, ho3, k3⟩ := append_stay uWr iWr rfl (by decide) hwo hT2.bb (by decide) (by omega) ((apW (-300 - (i : Int))).cells ++ (apW (-400 - (i : Int))).cells) rfl (fun u hu => by
        rcases List.mem_append.1 hu with h | h <;> (unfold Wo.cells at h; simp at h; rcases h with rfl | rfl | rfl | rfl <;> rfl))
      have hT3 := hT2.wr hit ((tsF g1 n).getD i tv0).wrs rfl k3 ho3
      have e3 : (tsF g1 n).set i { (tsF g1 n).getD i tv0 with wrs := ((tsF g1 n).getD i tv0).wrs } = tsF g1 n := by
        rw [tsF_get hlt, tsF_set hlt]
        exact tsF_congr (fun j _ => by
          by_cases e : j = i
          · rw [if_pos e, e]
          · rw [if_neg e])
      rw [e3] at hT3
      have K3 : Keeps (fun b => w8.heap.size ≤ b ∧ b < El) X W3 := ((kr.trans' k1 (U := fun b => w8.heap.size ≤ b ∧ b < El) (fun _ _ e => e) (fun b _ e => by have e : b = gl := e; rw [e]; exact hb0 gl rfl)).trans' k2 (U := fun b => w8.heap.size ≤ b ∧ b < El) (fun _ _ e => e) (fun b _ e => hb1 i hlt b e)).trans' k3 (fun _ _ e => e) (fun b _ e => hb2 i hlt b e)
      obtain ⟨sa, sc, es, -⟩ := own_slice hso
      obtain ⟨wa, wc, ew, -⟩ := own_slice hwo
      rw [es] at c9 hr2
      rw [ew] at c10' hr3
      have HW1 : Hid (W1 = wr.setCell ⟨gl, i * 11, none⟩ (.int .i64 (-7))) := hW1
      clear hT1 hT2 hcl1 hcl2 hso hwo hls k1 k2 k3 e2 e3 ho2 ho3 hit zb hW1 es ew
      generalize ((tsF g1 n).getD i tv0).saws.length = ns at *
      generalize ((tsF g1 n).getD i tv0).wrs.length = nw at *
      go_wp2_with (first | (refine wpList_store_c2 rfl rfl 3 (.inl rfl) _ _ rfl gl (i * 11) rfl (-7) rfl hcl hlen ?_; intro w6 HW6; obtain rfl : w6 = W1 := HW6.out.trans HW1.out.symm; clear HW6) | (refine wpList_build2 uSw iSw (by decide) (by decide) rfl _ _ rfl (apS (-100 - (i : Int))).cells (apS (-200 - (i : Int))).cells rfl rfl rfl rfl ?_; (try simp only [Act.put, List.setIfInBounds_toArray, List.set_cons_zero, List.set_cons_succ])) | (at_builtin; refine wpList_append_t rfl _ _ _ rfl _ _ _ W2 rfl rfl hr2 ?_; clear hr2) | (refine wpList_build2 uWr iWr (by decide) (by decide) rfl _ _ rfl (apW (-300 - (i : Int))).cells (apW (-400 - (i : Int))).cells rfl rfl rfl rfl ?_; (try simp only [Act.put, List.setIfInBounds_toArray, List.set_cons_zero, List.set_cons_succ])) | (at_builtin; refine wpList_append_t rfl _ _ _ rfl _ _ _ W3 rfl rfl hr3 ?_; clear hr3))
      go_roundw
      case rel => exact ⟨i + 1, g1, by go_num, by omega, hT3, hgg1, K3⟩
      case measure => simp [intOf]; omega
    · have j1 : decide ((i : Int) < (n : Int)) = false := decide_eq_false (by omega)
      have j2 : decide (i < n) = false := decide_eq_false hlt
      go_wp2_with fail
      refine hKH.out _ _ ?_
      obtain ⟨hN, hts, hR, hS, hF, hV, hW, k0, kX⟩ := HCO.out
      have kW : Keeps (fun _ => False) w8 wr := kX.trans' kr (fun _ _ e => e) (fun b hb e => by have e : w8.heap.size ≤ b ∧ b < El := e; omega)
      exact ap_D HPB.out HTY.out hN hn hm hts hnN hM (hR.keep kW) (hS.keep kW) (hF.keep kW) (hV.keep kW) (hW.keep kW) (k0.trans kW) (HK.out.keepB kr (fun b hb e => by have e : w8.heap.size ≤ b ∧ b < El := e; omega)) (HN.out.keepB kr (fun b hb e => by have e : w8.heap.size ≤ b ∧ b < El := e; omega)) hT (fun i hi j x e => HG1.out i hi j x (by rw [← (hgg i hi).1]; exact e)) (fun i hi j x e => HG2.out i hi j x (by rw [← (hgg i hi).2]; exact e))
end Go.Proofs.Ytmnmphkkcabkiaa

