import Derived.Test.YtchbhmolnoggfaaGreatDoorG16
namespace Go.Proofs.YtchbhmolnoggfaaGreatDoor
open Go.RowKit Go.Deep Go.ChangeShapes Go.WideShapes Go.ChangeAt
attribute [local go_sem] Oper.semAt_some run_store_nf run_store_f
theorem suf_get {t : ByteArray} {m : Nat} (h : t.size = m + 1) (hm : m < t.size) : Lib.hasSuffix t.data.toList [58] = decide (t[m].toNat = 58) := by
  have hl : t.data.toList.length = m + 1 := (Lib.size_eq t).symm.trans h
  have hd : t.data.toList.drop m = [t[m]] := by
    rw [List.drop_eq_getElem_cons (by omega), List.drop_eq_nil_of_le (by omega)]
    rfl
  rw [Bool.eq_iff_iff, decide_eq_true_iff]
  unfold Lib.hasSuffix
  rw [List.isSuffixOf_iff_suffix, List.suffix_iff_eq_drop, hl]
  show [58] = t.data.toList.drop m ↔ _
  rw [hd]
  constructor
  · intro e
    injection e with e
    rw [← e]; rfl
  · intro e
    have : t[m] = 58 := UInt8.toNat_inj.1 e
    rw [this]
theorem lab_ext {t : ByteArray} {m : Nat} (h : t.size = m + 1) (hs : Lib.hasSuffix t.data.toList [58] = true) : lab t = t.extract 0 m := by
  have hl : t.data.toList.length = m + 1 := (Lib.size_eq t).symm.trans h
  unfold lab Lib.trimSuffix
  rw [if_pos hs, hl]
  apply ByteArray.ext
  rw [ByteArray.data_extract]
  apply Array.ext'
  simp
theorem append_elb {W : World} {base k size bytes : Nat} {v z : Value} {S T : TypeId} {xs : List Value} (news : List Value) (hU : Tryz.prog.underlying S = some (.slice T)) (hi : (Tryz.prog.info? T).map (fun i => (i.zero, i.size, i.bytes)) = some (some z, size, bytes)) (hz : z.cells.size = size) (hs0 : 0 < size)
    (hown : W.ownsRow base T size v k xs) (hb : base ≤ W.heap.size) (hk : (k + 1) * bytes ≤ 140737488355328) (hb0 : 0 < bytes) (hl : news.length = size) (h1 : ∀ u ∈ news, u.oneCell' = true) :
    ∃ v' w', (Builtin.append_ #[S, S] S #[v, .slice (some ⟨W.heap.size, 0, none⟩) 1 1]).run Tryz.prog (W.alloc (.cells news.toArray T)) = .ok v' w' ∧ w'.ownsRow base T size v' (k + 1) (xs ++ news) ∧ Keeps (fun i => v.ownBlock = some i) W w' ∧ (v'.ownBlock = v.ownBlock ∨ v'.ownBlock = some (W.heap.size + 1)) := by
  obtain ⟨i0, hi0, hz0, hz1, hz2⟩ : ∃ i, Tryz.prog.info? T = some i ∧ i.zero = some z ∧ i.size = size ∧ i.bytes = bytes := by
    cases hq : Tryz.prog.info? T with
    | none => rw [hq] at hi; cases hi
    | some i =>
      rw [hq] at hi
      injection hi with hi
      injection hi with h1 h2
      injection h2 with h2 h3
      exact ⟨i, rfl, h1, h2, h3⟩
  have hkb : k + 1 ≤ (k + 1) * bytes := Nat.le_mul_of_pos_right _ hb0
  obtain ⟨v', w', hr, ho, hg, _, hbl⟩ := run_append_own_at (P := Tryz.prog) (w := W.alloc (.cells news.toArray T)) base S S T i0 _ size bytes hU hi0 hz0 hz1 hz2 hz hs0 v k xs (((Keeps.refl (fun _ => False) W).alloc _).owns hown (fun _ _ e => e)) ⟨W.heap.size, 0, none⟩ 1 1 news (by omega) (fun j u hu => by
      rw [add_at]
      have := (CL.made W news T).c j u hu
      simpa using this) h1 (by unfold maxLen; omega) hk (Nat.le_trans hb (by simp))
  exact ⟨v', w', hr, ho, ((Keeps.refl _ W).alloc _).grown hg (fun i _ e => e), by simpa using hbl⟩
theorem zsU : Tryz.prog.underlying 44 = some (.slice 9) := by kernel_rfl
theorem zsI : (Tryz.prog.info? 9).map (fun i => (i.zero, i.size, i.bytes)) = some (some (.string ⟨#[]⟩), 1, 16) := by kernel_rfl
theorem znU : Tryz.prog.underlying 45 = some (.slice 3) := by kernel_rfl
theorem znI : (Tryz.prog.info? 3).map (fun i => (i.zero, i.size, i.bytes)) = some (some (.int .i64 0), 1, 8) := by kernel_rfl
structure RZ (w : World) (base R : Nat) (cv nv wv uv : Value) (qs : List Ins) (A B : List Value) (js : List (Nat × Pc)) : Prop where
  c : CL w R [cv, nv, wv, uv]
  o : w.ownsRow base 59 11 cv qs.length (icl qs)
  n : w.ownsRow base 9 1 nv A.length A
  p : w.ownsRow base 3 1 wv B.length B
  u : w.ownsRow base 54 4 uv js.length (ucl js)
  b : True
  dR : ∀ v ∈ [cv, nv, wv, uv], v.ownBlock ≠ some R
  d1 : ∀ g, cv.ownBlock = some g → nv.ownBlock ≠ some g ∧ wv.ownBlock ≠ some g ∧ uv.ownBlock ≠ some g
  d2 : ∀ g, nv.ownBlock = some g → wv.ownBlock ≠ some g ∧ uv.ownBlock ≠ some g
  d3 : ∀ g, wv.ownBlock = some g → uv.ownBlock ≠ some g
theorem RY.z {w : World} {base R : Nat} {cv nv wv uv : Value} {qs : List Ins} {ns : List (ByteArray × Nat)} {js : List (Nat × Pc)} (h : RY w base R cv nv wv uv qs ns js) : RZ w base R cv nv wv uv qs (nmn ns) (icn ns) js :=
  ⟨h.c, h.o, by have := h.n; rwa [show (nmn ns).length = ns.length from List.length_map ..], by have := h.p; rwa [show (icn ns).length = ns.length from List.length_map ..], h.u, h.b, h.dR, h.d1, h.d2, h.d3⟩
theorem RZ.y {w : World} {base R : Nat} {cv nv wv uv : Value} {qs : List Ins} {ns : List (ByteArray × Nat)} {js : List (Nat × Pc)} (h : RZ w base R cv nv wv uv qs (nmn ns) (icn ns) js) : RY w base R cv nv wv uv qs ns js :=
  ⟨h.c, h.o, by have := h.n; rwa [show (nmn ns).length = ns.length from List.length_map ..] at this, by have := h.p; rwa [show (icn ns).length = ns.length from List.length_map ..] at this, h.u, h.b, h.dR, h.d1, h.d2, h.d3⟩
theorem RZ.lt {w : World} {base R : Nat} {cv nv wv uv : Value} {qs : List Ins} {A B : List Value} {js : List (Nat × Pc)} (h : RZ w base R cv nv wv uv qs A B js) : R < w.heap.size := h.c.lt (by show 0 < 4; decide)
theorem fresh_ne {v v' : Value} {W : Nat} (hbl : v'.ownBlock = v.ownBlock ∨ v'.ownBlock = some (W + 1)) {m : Nat} (hm : m < W) (h : v.ownBlock ≠ some m) : v'.ownBlock ≠ some m := fun e => by
  rcases hbl with h1 | h1
  · exact h (h1.symm.trans e)
  · have h2 : some (W + 1) = some m := h1.symm.trans e
    injection h2 with h2
    omega
theorem RZ.putN {w w' : World} {base R : Nat} {cv nv wv uv nv' x : Value} {qs : List Ins} {A B : List Value} {js : List (Nat × Pc)} (h : RZ w base R cv nv wv uv qs A B js) (ho : w'.ownsRow base 9 1 nv' (A.length + 1) (A ++ [x])) (kk : Keeps (fun i => nv.ownBlock = some i) w w') (hbl : nv'.ownBlock = nv.ownBlock ∨ nv'.ownBlock = some (w.heap.size + 1)) :
    RZ (w'.setCell ⟨R, 1, none⟩ nv') base R cv nv' wv uv qs (A ++ [x]) B js := by
  have kS : Keeps (fun k => k = R) w' (w'.setCell ⟨R, 1, none⟩ nv') := (Keeps.refl _ w').setA 1 _
  have hR := h.dR nv (by simp)
  have hRn := fresh_ne hbl h.lt hR
  refine ⟨(h.c.keep (by show 0 < 4; decide) kk hR).set (o := 1) (by show 1 < 4; decide) _, ?_, ?_, ?_, ?_, h.b, ?_, ?_, ?_, h.d3⟩
  · exact kS.owns (kk.owns h.o (fun g hg e => (h.d1 g hg).1 e)) (fun g hg e => h.dR cv (by simp) (e ▸ hg))
  · rw [List.length_append]; exact kS.owns ho (fun g hg e => hRn (e ▸ hg))
  · exact kS.owns (kk.owns h.p (fun g hg e => (h.d2 g e).1 hg)) (fun g hg e => h.dR wv (by simp) (e ▸ hg))
  · exact kS.owns (kk.owns h.u (fun g hg e => (h.d2 g e).2 hg)) (fun g hg e => h.dR uv (by simp) (e ▸ hg))
  · intro v hv
    simp only [List.mem_cons, List.mem_nil_iff, or_false] at hv
    rcases hv with rfl | rfl | rfl | rfl
    · exact h.dR _ (by simp)
    · exact hRn
    · exact h.dR _ (by simp)
    · exact h.dR _ (by simp)
  · exact fun g hg => ⟨fresh_ne hbl (owns_lt' h.o g hg) (h.d1 g hg).1, (h.d1 g hg).2⟩
  · exact fun g hg => ⟨fun e => fresh_ne hbl (owns_lt' h.p g e) (fun e2 => (h.d2 g e2).1 e) hg, fun e => fresh_ne hbl (owns_lt' h.u g e) (fun e2 => (h.d2 g e2).2 e) hg⟩
theorem RZ.putW {w w' : World} {base R : Nat} {cv nv wv uv wv' x : Value} {qs : List Ins} {A B : List Value} {js : List (Nat × Pc)} (h : RZ w base R cv nv wv uv qs A B js) (ho : w'.ownsRow base 3 1 wv' (B.length + 1) (B ++ [x])) (kk : Keeps (fun i => wv.ownBlock = some i) w w') (hbl : wv'.ownBlock = wv.ownBlock ∨ wv'.ownBlock = some (w.heap.size + 1)) :
    RZ (w'.setCell ⟨R, 2, none⟩ wv') base R cv nv wv' uv qs A (B ++ [x]) js := by
  have kS : Keeps (fun k => k = R) w' (w'.setCell ⟨R, 2, none⟩ wv') := (Keeps.refl _ w').setA 2 _
  have hR := h.dR wv (by simp)
  have hRn := fresh_ne hbl h.lt hR
  refine ⟨(h.c.keep (by show 0 < 4; decide) kk hR).set (o := 2) (by show 2 < 4; decide) _, ?_, ?_, ?_, ?_, h.b, ?_, ?_, ?_, ?_⟩
  · exact kS.owns (kk.owns h.o (fun g hg e => (h.d1 g hg).2.1 e)) (fun g hg e => h.dR cv (by simp) (e ▸ hg))
  · exact kS.owns (kk.owns h.n (fun g hg e => (h.d2 g hg).1 e)) (fun g hg e => h.dR nv (by simp) (e ▸ hg))
  · rw [List.length_append]; exact kS.owns ho (fun g hg e => hRn (e ▸ hg))
  · exact kS.owns (kk.owns h.u (fun g hg e => h.d3 g e hg)) (fun g hg e => h.dR uv (by simp) (e ▸ hg))
  · intro v hv
    simp only [List.mem_cons, List.mem_nil_iff, or_false] at hv
    rcases hv with rfl | rfl | rfl | rfl
    · exact h.dR _ (by simp)
    · exact h.dR _ (by simp)
    · exact hRn
    · exact h.dR _ (by simp)
  · exact fun g hg => ⟨(h.d1 g hg).1, fresh_ne hbl (owns_lt' h.o g hg) (h.d1 g hg).2.1, (h.d1 g hg).2.2⟩
  · exact fun g hg => ⟨fresh_ne hbl (owns_lt' h.n g hg) (h.d2 g hg).1, (h.d2 g hg).2⟩
  · exact fun g hg e => fresh_ne hbl (owns_lt' h.u g e) (fun e2 => h.d3 g e2 e) hg
structure LZ (w0 w : World) (base R g rb : Nat) (a : Option Addr) (ps : List Pc) (cv nv wv uv : Value) (qs : List Ins) (A B : List Value) (js : List (Nat × Pc)) : Prop where
  y : RZ w base R cv nv wv uv qs A B js
  wc : WC w a g ps
  f : CL w rb [.int .i64 0, .int .i64 0, .int .i64 0]
  lt : g < w.heap.size
  gn : g ≠ R ∧ rb ≠ R ∧ rb ≠ g
  dg : ∀ v ∈ [cv, nv, wv, uv], v.ownBlock ≠ some g ∧ v.ownBlock ≠ some rb
  k : Keeps (fun i => base ≤ i ∨ i = R) w0 w
  bg : base ≤ rb
  bw : base ≤ w.heap.size
theorem LY.z {w0 w : World} {base R g rb : Nat} {a : Option Addr} {ps : List Pc} {cv nv wv uv : Value} {qs : List Ins} {ns : List (ByteArray × Nat)} {js : List (Nat × Pc)} (h : LY w0 w base R g rb a ps cv nv wv uv qs ns js) : LZ w0 w base R g rb a ps cv nv wv uv qs (nmn ns) (icn ns) js := ⟨h.y.z, h.wc, h.f, h.lt, h.gn, h.dg, h.k, h.bg, h.bw⟩
theorem LZ.ly {w0 w : World} {base R g rb : Nat} {a : Option Addr} {ps : List Pc} {cv nv wv uv : Value} {qs : List Ins} {ns : List (ByteArray × Nat)} {js : List (Nat × Pc)} (h : LZ w0 w base R g rb a ps cv nv wv uv qs (nmn ns) (icn ns) js) : LY w0 w base R g rb a ps cv nv wv uv qs ns js := ⟨h.y.y, h.wc, h.f, h.lt, h.gn, h.dg, h.k, h.bg, h.bw⟩
theorem LZ.step {w0 w W2 : World} {base R g rb : Nat} {a : Option Addr} {ps : List Pc} {cv nv wv uv nv' wv' : Value} {qs : List Ins} {A B A' B' : List Value} {js : List (Nat × Pc)} (h : LZ w0 w base R g rb a ps cv nv wv uv qs A B js) (y' : RZ W2 base R cv nv' wv' uv qs A' B' js) (K : Keeps (fun i => (nv.ownBlock = some i ∨ wv.ownBlock = some i) ∨ i = R) w W2)
    (hn : ∀ m, m < w.heap.size → nv.ownBlock ≠ some m → nv'.ownBlock ≠ some m) (hw : ∀ m, m < w.heap.size → wv.ownBlock ≠ some m → wv'.ownBlock ≠ some m) : LZ w0 W2 base R g rb a ps cv nv' wv' uv qs A' B' js := by
  have hrb := h.f.lt (by show 0 < 3; decide)
  have dn := h.dg nv (by simp)
  have dw := h.dg wv (by simp)
  refine ⟨y', h.wc.keep K (fun e => e.elim (fun e => e.elim dn.1 dw.1) h.gn.1), h.f.keep (by show 0 < 3; decide) K (fun e => e.elim (fun e => e.elim dn.2 dw.2) h.gn.2.1), Nat.lt_of_lt_of_le h.lt K.size, h.gn, ?_, h.k.trans' K (fun _ _ e => e) (fun i hi e => e.elim (fun e => e.elim (fun e => .inl (owns_base h.y.n i e)) (fun e => .inl (owns_base h.y.p i e))) (fun e => .inr e)), h.bg, Nat.le_trans h.bw K.size⟩
  intro v hv
  simp only [List.mem_cons, List.mem_nil_iff, or_false] at hv
  rcases hv with rfl | rfl | rfl | rfl
  · exact h.dg _ (by simp)
  · exact ⟨hn g h.lt dn.1, hn rb hrb dn.2⟩
  · exact ⟨hw g h.lt dw.1, hw rb hrb dw.2⟩
  · exact h.dg _ (by simp)
end Go.Proofs.YtchbhmolnoggfaaGreatDoor

namespace Go.Proofs.YtchbhmolnoggfaaGreatDoor
open Go.RowKit Go.Deep Go.ChangeShapes Go.WideShapes Go.ChangeAt
attribute [local go_sem] Oper.semAt_some run_store_nf run_store_f
theorem RZ.keep {w w' : World} {base R : Nat} {cv nv wv uv : Value} {qs : List Ins} {A B : List Value} {js : List (Nat × Pc)} (h : RZ w base R cv nv wv uv qs A B js) (k : Keeps (fun _ => False) w w') : RZ w' base R cv nv wv uv qs A B js :=
  ⟨h.c.keep (by show 0 < 4; decide) k (fun e => e), k.owns h.o (fun _ _ e => e), k.owns h.n (fun _ _ e => e), k.owns h.p (fun _ _ e => e), k.owns h.u (fun _ _ e => e), h.b, h.dR, h.d1, h.d2, h.d3⟩
def labE (f : Func) : Code := match f.body with | some (.seq _ (.seq _ (.seq (.block _ (.loop (.seq _ (.block _ (.seq _ (.seq _ (.seq _ t))))))) _))) => t | _ => .skip
set_option maxHeartbeats 2000000 in
set_option maxRecDepth 1000000 in
theorem label_put {w0 w : World} {base R g rb i : Nat} {nm : ByteArray} {a : Option Addr} {ps : List Pc} {cv nv wv uv : Value} {qs : List Ins} {ns : List (ByteArray × Nat)} {js : List (Nat × Pc)} {Q : Exit → Act → World → Prop} {x1 x2 x3 x4 x5 x6 x9 x10 x11 x12 x13 x14 x15 x16 x17 x18 x19 x20 x21 x22 x23 x24 x25 x26 x27 x28 x29 x30 x31 x32 x33 x34 x35 x36 x37 x38 x39 x40 x41 x42 x43 x44 x45 x46 x47 x48 x49 x50 x51 x52 x53 x54 x55 x56 x57 x58 x59 x60 x61 x62 x63 x64 x65 x66 x67 x68 x69 x70 x71 x72 x73 x74 x75 x76 x77 x78 x79 x80 x81 x82 x83 x84 x85 x86 x87 x88 x89 x90 x91 x92 x93 x94 x95 x96 x97 x98 x99 x100 x101 x102 x103 x104 x105 x106 x107 x108 x109 x110 x111 x112 x113 x114 x115 x116 x117 x118 x119 x120 x121 x122 x123 x124 x125 x126 x127 x128 x129 x130 x131 x132 x133 x134 x135 x136 x137 x138 x139 x140 x141 x142 x143 x144 x145 x146 x147 x148 x149 x150 x151 x152 x153 x154 x155 x156 x157 x158 x159 x160 x161 x162 x163 x164 x165 x166 x167 x168 x169 x170 x171 x172 x173 x174 x175 x176 x177 x178 x179 x180 x181 x182 x183 x184 x185 x186 x187 x188 x189 x190 x191 x192 x193 x194 x195 x196 : Value} (hS : LY w0 w base R g rb a ps cv nv wv uv qs ns js) (hn : ns.length ≤ 20000000) (hi : i ≤ 9000) (hQp : ∀ c (a : Act) d v w, Q (.panic c) (a.put d v) w → Q (.panic c) a w)
    (hQ : ∀ w' nv' wv' y68 y69 y70 y71 y72 y73 y74 y75 y76 y77 y78 y79 y80 y81 y82 y83 y84 y85 y86 y87 y88 y89 y90 y91 y92 y93, LY w0 w' base R g rb a ps cv nv' wv' uv qs (ns ++ [(nm, qs.length)]) js → Q .normal { tmps := #[.pointer (some ⟨R, 0, none⟩), x1, x2, x3, x4, x5, x6, .int .i64 ((i : Int) + 1), .string nm, x9, x10, x11, x12, x13, x14, x15, x16, x17, x18, x19, x20, x21, x22, x23, x24, x25, x26, x27, x28, x29, x30, x31, x32, x33, x34, x35, x36, x37, x38, x39, x40, x41, x42, x43, x44, x45, x46, x47, x48, x49, x50, x51, x52, x53, x54, x55, x56, x57, x58, x59, x60, x61, x62, x63, x64, x65, x66, x67, y68, y69, y70, y71, y72, y73, y74, y75, y76, y77, y78, y79, y80, y81, y82, y83, y84, y85, y86, y87, y88, y89, y90, y91, y92, y93, x94, x95, x96, x97, x98, x99, x100, x101, x102, x103, x104, x105, x106, x107, x108, x109, x110, x111, x112, x113, x114, x115, x116, x117, x118, x119, x120, x121, x122, x123, x124, x125, x126, x127, x128, x129, x130, x131, x132, x133, x134, x135, x136, x137, x138, x139, x140, x141, x142, x143, x144, x145, x146, x147, x148, x149, x150, x151, x152, x153, x154, x155, x156, x157, x158, x159, x160, x161, x162, x163, x164, x165, x166, x167, x168, x169, x170, x171, x172, x173, x174, x175, x176, x177, x178, x179, x180, x181, x182, x183, x184, x185, x186, x187, x188, x189, x190, x191, x192, x193, x194, x195, x196], defers := [] } w') :
    (labE Tryz.f14).wp Tryz.prog Q { tmps := #[.pointer (some ⟨R, 0, none⟩), x1, x2, x3, x4, x5, x6, .int .i64 (i : Int), .string nm, x9, x10, x11, x12, x13, x14, x15, x16, x17, x18, x19, x20, x21, x22, x23, x24, x25, x26, x27, x28, x29, x30, x31, x32, x33, x34, x35, x36, x37, x38, x39, x40, x41, x42, x43, x44, x45, x46, x47, x48, x49, x50, x51, x52, x53, x54, x55, x56, x57, x58, x59, x60, x61, x62, x63, x64, x65, x66, x67, x68, x69, x70, x71, x72, x73, x74, x75, x76, x77, x78, x79, x80, x81, x82, x83, x84, x85, x86, x87, x88, x89, x90, x91, x92, x93, x94, x95, x96, x97, x98, x99, x100, x101, x102, x103, x104, x105, x106, x107, x108, x109, x110, x111, x112, x113, x114, x115, x116, x117, x118, x119, x120, x121, x122, x123, x124, x125, x126, x127, x128, x129, x130, x131, x132, x133, x134, x135, x136, x137, x138, x139, x140, x141, x142, x143, x144, x145, x146, x147, x148, x149, x150, x151, x152, x153, x154, x155, x156, x157, x158, x159, x160, x161, x162, x163, x164, x165, x166, x167, x168, x169, x170, x171, x172, x173, x174, x175, x176, x177, x178, x179, x180, x181, x182, x183, x184, x185, x186, x187, x188, x189, x190, x191, x192, x193, x194, x195, x196], defers := [] } w := by
  have hZ := hS.z
  have hbw := hS.bw
  have HA : Hid (nmn ns ++ [.string nm] = nmn (ns ++ [(nm, qs.length)])) := by show _ = _; unfold nmn; rw [List.map_append]; rfl
  have HB : Hid (icn ns ++ [.int .i64 (qs.length : Int)] = icn (ns ++ [(nm, qs.length)])) := by show _ = _; unfold icn; rw [List.map_append]; rfl
  have hAl : (nmn ns).length ≤ 20000000 := by unfold nmn; rw [List.length_map]; exact hn
  have hBl : (icn ns).length ≤ 20000000 := by unfold icn; rw [List.length_map]; exact hn
  have HQ : Hid (∀ w' nv' wv' y68 y69 y70 y71 y72 y73 y74 y75 y76 y77 y78 y79 y80 y81 y82 y83 y84 y85 y86 y87 y88 y89 y90 y91 y92 y93, LY w0 w' base R g rb a ps cv nv' wv' uv qs (ns ++ [(nm, qs.length)]) js → Q .normal { tmps := #[.pointer (some ⟨R, 0, none⟩), x1, x2, x3, x4, x5, x6, .int .i64 ((i : Int) + 1), .string nm, x9, x10, x11, x12, x13, x14, x15, x16, x17, x18, x19, x20, x21, x22, x23, x24, x25, x26, x27, x28, x29, x30, x31, x32, x33, x34, x35, x36, x37, x38, x39, x40, x41, x42, x43, x44, x45, x46, x47, x48, x49, x50, x51, x52, x53, x54, x55, x56, x57, x58, x59, x60, x61, x62, x63, x64, x65, x66, x67, y68, y69, y70, y71, y72, y73, y74, y75, y76, y77, y78, y79, y80, y81, y82, y83, y84, y85, y86, y87, y88, y89, y90, y91, y92, y93, x94, x95, x96, x97, x98, x99, x100, x101, x102, x103, x104, x105, x106, x107, x108, x109, x110, x111, x112, x113, x114, x115, x116, x117, x118, x119, x120, x121, x122, x123, x124, x125, x126, x127, x128, x129, x130, x131, x132, x133, x134, x135, x136, x137, x138, x139, x140, x141, x142, x143, x144, x145, x146, x147, x148, x149, x150, x151, x152, x153, x154, x155, x156, x157, x158, x159, x160, x161, x162, x163, x164, x165, x166, x167, x168, x169, x170, x171, x172, x173, x174, x175, x176, x177, x178, x179, x180, x181, x182, x183, x184, x185, x186, x187, x188, x189, x190, x191, x192, x193, x194, x195, x196], defers := [] } w') := hQ
  clear hQ hS
  generalize hA : nmn ns = A at *
  generalize hB : icn ns = B at *
  clear hA hB
  obtain ⟨v1, w1, hr1, ho1, kk1, hbl1⟩ := append_elb [.string nm] zsU zsI rfl (by decide) hZ.y.n hbw (by omega) (by decide) rfl (by simp [Value.oneCell'])
  have hY2 := hZ.y.putN ho1 kk1 hbl1
  have kS1 : Keeps (fun k => k = R) w1 (w1.setCell ⟨R, 1, none⟩ v1) := (Keeps.refl _ w1).setA 1 _
  have hZ2 := hZ.step hY2 ((kk1.mono (fun _ _ e => .inl (.inl e))).trans (kS1.mono (fun _ _ e => .inr e))) (fun m hm h => fresh_ne hbl1 hm h) (fun m hm h => h)
  have CR1 := hZ.y.c.keep (by show 0 < 4; decide) kk1 (hZ.y.dR nv (by simp))
  have z1 := CR1.z 1 (by show 1 < 4; decide)
  have x1' := CR1.c 1 _ rfl
  have r1 := hZ.y.c.c 1 _ rfl
  obtain ⟨an, capn, rfl⟩ := slice_of_owns hZ.y.n
  obtain ⟨a1, cap1, rfl⟩ := slice_of_owns ho1
  have hr1' : (Builtin.append_ #[44, 44] 44 #[.slice an A.length capn, .slice (some ⟨w.heap.size, 0, none⟩) 1 1]).run Tryz.prog (w.alloc (.cells #[.string nm] 9)) = .ok (.slice a1 (A.length + 1) cap1) w1 := hr1
  obtain ⟨V2, hV2⟩ : ∃ V2, V2 = w1.setCell ⟨R, 1, none⟩ (.slice a1 (A.length + 1) cap1) := ⟨_, rfl⟩
  rw [← hV2] at hZ2
  clear hY2 kS1 hr1 hZ CR1 ho1 kk1 hbl1
  dsimp only [labE, Tryz.f14]
  refine wp_seq_k (fun K1 hK1 => ?_)
  have hH1 : Hid _ := hK1
  clear hK1
  go_wp2_with (at_builtin; refine wpList_append_run' rfl _ _ _ rfl _ _ _ w1 rfl rfl hr1' ?_; clear hr1')
  refine hH1.out _ _ ?_
  clear hH1 K1
  rw [← hV2]
  clear hV2 z1 x1' r1
  have hI := hZ2.y
  obtain ⟨ac, capc, rfl⟩ := slice_of_owns hI.o
  have Kd : Keeps (fun _ => False) V2 V2.drew := (Keeps.refl _ V2).drew
  obtain ⟨v2, w', hr, ho, kk, hbl⟩ := append_elb [.int .i64 (qs.length : Int)] znU znI rfl (by decide) (Kd.owns hI.p (fun _ _ e => e)) (show base ≤ V2.heap.size from hZ2.bw) (by omega) (by decide) rfl (by simp [Value.oneCell'])
  have hY3 := (hI.keep Kd).putW ho kk hbl
  have KK : Keeps (fun k => wv.ownBlock = some k) V2 w' := (Kd.mono (fun _ _ e => e.elim)).trans kk
  have kS : Keeps (fun k => k = R) w' (w'.setCell ⟨R, 2, none⟩ v2) := (Keeps.refl _ w').setA 2 _
  have hZ3 := hZ2.step hY3 ((KK.mono (fun _ _ e => .inl (.inr e))).trans (kS.mono (fun _ _ e => .inr e))) (fun m hm h => h) (fun m hm h => fresh_ne hbl hm h)
  rw [HA.out, HB.out] at hZ3
  have HZ3 := hZ3.ly
  have r0 := hI.c.c 0 _ rfl
  have r2 := hI.c.c 2 _ rfl
  have dW := hI.dR wv (by simp)
  have CR' := hI.c.keep (by show 0 < 4; decide) KK dW
  obtain ⟨aw, capw, rfl⟩ := slice_of_owns hI.p
  obtain ⟨a2, cap2, rfl⟩ := slice_of_owns ho
  have hr' : (Builtin.append_ #[45, 45] 45 #[.slice aw B.length capw, .slice (some ⟨V2.heap.size, 0, none⟩) 1 1]).run Tryz.prog (V2.alloc (.cells #[.int .i64 (qs.length : Int)] 3)).drew = .ok (.slice a2 (B.length + 1) cap2) w' := hr
  clear hr hY3 hZ3 hZ2 kk ho
  refine wp_seq_k (fun K1 hK1 => ?_)
  have hH1 : Hid _ := hK1
  clear hK1
  go_wp2_with fail
  refine wp_region_held_drew (S := fun w' => SJ (Value.ownBlock (.slice aw B.length capw)) R (.slice ac qs.length capc) V2 w') (by kernel_rfl) ⟨(Keeps.refl _ V2).drew, r0⟩ (fun hHeld => ?_)
  refine wpAnyH_take (i := 0) (v := ?_) rfl (by kernel_rfl) (by kernel_rfl) (by kernel_rfl) (fun _ _ _ h => hQp _ _ _ _ _ h) (Or.inl ⟨by rfl, ?_⟩) (by assumption) ?_
  rotate_left
  · intro wx hSw;  go_simp <;> with_reducible rfl
  (try simp only [List.getElem_toArray]); (try simp only [List.getElem_cons_succ]); (try simp only [List.getElem_cons_zero]); (try simp only [Act.put]); (try simp only [List.setIfInBounds_toArray]); (repeat first | simp only [List.set_cons_succ] | simp only [List.set_cons_zero])
  refine wpAnyH_take (i := 1) (v := ?_) rfl (by kernel_rfl) (by kernel_rfl) (by kernel_rfl) (fun _ _ _ h => hQp _ _ _ _ _ h) (Or.inl ⟨by rfl, ?_⟩) (by assumption) ?_
  rotate_left
  · intro wx hSw;  go_simp <;> with_reducible rfl
  (try simp only [List.getElem_toArray]); (try simp only [List.getElem_cons_succ]); (try simp only [List.getElem_cons_zero]); (try simp only [Act.put]); (try simp only [List.setIfInBounds_toArray]); (repeat first | simp only [List.set_cons_succ] | simp only [List.set_cons_zero])
  refine wpAnyH_take (i := 2) (v := ?_) rfl (by kernel_rfl) (by kernel_rfl) (by kernel_rfl) (fun _ _ _ h => hQp _ _ _ _ _ h) (Or.inl ⟨by rfl, ?_⟩) (by assumption) ?_
  rotate_left
  · intro wx hSw;  go_simp <;> with_reducible rfl
  (try simp only [List.getElem_toArray]); (try simp only [List.getElem_cons_succ]); (try simp only [List.getElem_cons_zero]); (try simp only [Act.put]); (try simp only [List.setIfInBounds_toArray]); (repeat first | simp only [List.set_cons_succ] | simp only [List.set_cons_zero])
  refine wpAnyH_take (i := 3) (v := ?_) rfl (by kernel_rfl) (by kernel_rfl) (by kernel_rfl) (fun _ _ _ h => hQp _ _ _ _ _ h) (Or.inl ⟨by rfl, ?_⟩) (by assumption) ?_
  rotate_left
  · intro wx hSw;  go_simp <;> with_reducible rfl
  (try simp only [List.getElem_toArray]); (try simp only [List.getElem_cons_succ]); (try simp only [List.getElem_cons_zero]); (try simp only [Act.put]); (try simp only [List.setIfInBounds_toArray]); (repeat first | simp only [List.set_cons_succ] | simp only [List.set_cons_zero])
  refine wpAnyH_take (i := 5) (v := ?_) rfl (by kernel_rfl) (by kernel_rfl) (by kernel_rfl) (fun _ _ _ h => hQp _ _ _ _ _ h) (Or.inl ⟨by rfl, ?_⟩) (by assumption) ?_
  rotate_left
  · intro wx hSw;  go_simp <;> with_reducible rfl
  (try simp only [List.getElem_toArray]); (try simp only [List.getElem_cons_succ]); (try simp only [List.getElem_cons_zero]); (try simp only [Act.put]); (try simp only [List.setIfInBounds_toArray]); (repeat first | simp only [List.set_cons_succ] | simp only [List.set_cons_zero])
  refine wpAnyH_take (i := 6) (v := ?_) rfl (by kernel_rfl) (by kernel_rfl) (by kernel_rfl) (fun _ _ _ h => hQp _ _ _ _ _ h) (Or.inl ⟨by rfl, ?_⟩) (by assumption) ?_
  rotate_left
  · intro wx hSw;  go_simp <;> with_reducible rfl
  (try simp only [List.getElem_toArray]); (try simp only [List.getElem_cons_succ]); (try simp only [List.getElem_cons_zero]); (try simp only [Act.put]); (try simp only [List.setIfInBounds_toArray]); (repeat first | simp only [List.set_cons_succ] | simp only [List.set_cons_zero])
  refine wpAnyH_take (i := 7) (v := ?_) rfl (by kernel_rfl) (by kernel_rfl) (by kernel_rfl) (fun _ _ _ h => hQp _ _ _ _ _ h) (Or.inl ⟨by rfl, ?_⟩) (by assumption) ?_
  rotate_left
  · intro wx hSw;  go_simp <;> with_reducible rfl
  (try simp only [List.getElem_toArray]); (try simp only [List.getElem_cons_succ]); (try simp only [List.getElem_cons_zero]); (try simp only [Act.put]); (try simp only [List.setIfInBounds_toArray]); (repeat first | simp only [List.set_cons_succ] | simp only [List.set_cons_zero])
  refine wpAnyH_take (i := 8) (v := ?_) rfl (by kernel_rfl) (by kernel_rfl) (by kernel_rfl) (fun _ _ _ h => hQp _ _ _ _ _ h) (Or.inl ⟨by rfl, ?_⟩) (by assumption) ?_
  rotate_left
  · intro wx hSw; have q0 := hSw.c;  go_simp <;> with_reducible rfl
  (try simp only [List.getElem_toArray]); (try simp only [List.getElem_cons_succ]); (try simp only [List.getElem_cons_zero]); (try simp only [Act.put]); (try simp only [List.setIfInBounds_toArray]); (repeat first | simp only [List.set_cons_succ] | simp only [List.set_cons_zero])
  refine wpAnyH_take (i := 9) (v := ?_) rfl (by kernel_rfl) (by kernel_rfl) (by kernel_rfl) (fun _ _ _ h => hQp _ _ _ _ _ h) (Or.inl ⟨by rfl, ?_⟩) (by assumption) ?_
  rotate_left
  · intro wx hSw;  go_simp <;> with_reducible rfl
  (try simp only [List.getElem_toArray]); (try simp only [List.getElem_cons_succ]); (try simp only [List.getElem_cons_zero]); (try simp only [Act.put]); (try simp only [List.setIfInBounds_toArray]); (repeat first | simp only [List.set_cons_succ] | simp only [List.set_cons_zero])
  refine wpAnyH_two' 4 10 (by kernel_rfl) rfl rfl (by kernel_rfl) (by kernel_rfl) ?_ ?_
  · go_simp
    (try simp only [List.getElem_toArray]); (try simp only [List.getElem_cons_succ]); (try simp only [List.getElem_cons_zero]); (try simp only [Act.put]); (try simp only [List.setIfInBounds_toArray]); (repeat first | simp only [List.set_cons_succ] | simp only [List.set_cons_zero])
    refine wpAnyH_one 10 (by kernel_rfl) rfl rfl ?_
    go_simp
    refine ⟨⟨hHeld.k.alloc _, (Keeps.refl (fun _ => False) V2).drew.alloc _ |>.cell r0 (fun e => e)⟩, fun hS2' => ?_⟩
    (try simp only [List.getElem_toArray]); (try simp only [List.getElem_cons_succ]); (try simp only [List.getElem_cons_zero]); (try simp only [Act.put]); (try simp only [List.setIfInBounds_toArray]); (repeat first | simp only [List.set_cons_succ] | simp only [List.set_cons_zero])
    refine wpAnyH_one 11 (by kernel_rfl) rfl rfl ?_
    refine wp_append_run _ _ 45 rfl _ _ _ _ rfl rfl hr' ?_
    refine ⟨⟨KK.mono (fun _ _ e => .inl e), CR'.c 0 _ rfl⟩, fun hS3 => ?_⟩
    (try simp only [List.getElem_toArray]); (try simp only [List.getElem_cons_succ]); (try simp only [List.getElem_cons_zero]); (try simp only [Act.put]); (try simp only [List.setIfInBounds_toArray]); (repeat first | simp only [List.set_cons_succ] | simp only [List.set_cons_zero])
    have z2 := CR'.z 2 (by show 2 < 4; decide)
    have x2' := CR'.c 2 _ rfl
    refine wpAnyH_take (i := 12) (v := ?_) rfl (by kernel_rfl) (by kernel_rfl) (by kernel_rfl) (fun _ _ _ h => hQp _ _ _ _ _ h) (Or.inl ⟨by rfl, ?_⟩) (by assumption) ?_
    rotate_left
    · intro wx hSw;  go_simp <;> with_reducible rfl
    (try simp only [List.getElem_toArray]); (try simp only [List.getElem_cons_succ]); (try simp only [List.getElem_cons_zero]); (try simp only [Act.put]); (try simp only [List.setIfInBounds_toArray]); (repeat first | simp only [List.set_cons_succ] | simp only [List.set_cons_zero])
    refine wpAnyH_take (i := 13) (v := ?_) rfl (by kernel_rfl) (by kernel_rfl) (by kernel_rfl) (fun _ _ _ h => hQp _ _ _ _ _ h) (Or.inl ⟨by rfl, ?_⟩) (by assumption) ?_
    rotate_left
    · intro wx hSw;  go_simp <;> with_reducible rfl
    (try simp only [List.getElem_toArray]); (try simp only [List.getElem_cons_succ]); (try simp only [List.getElem_cons_zero]); (try simp only [Act.put]); (try simp only [List.setIfInBounds_toArray]); (repeat first | simp only [List.set_cons_succ] | simp only [List.set_cons_zero])
    refine wpAnyH_one 14 (by kernel_rfl) rfl rfl ?_
    go_simp
    refine ⟨⟨hS3.k.setCell (fun _ => .inr rfl) _, (CR'.set (o := 2) (by show 2 < 4; decide) (.slice a2 (B.length + 1) cap2)).c 0 _ rfl⟩, fun hS4 => ?_⟩
    (try simp only [List.getElem_toArray]); (try simp only [List.getElem_cons_succ]); (try simp only [List.getElem_cons_zero]); (try simp only [Act.put]); (try simp only [List.setIfInBounds_toArray]); (repeat first | simp only [List.set_cons_succ] | simp only [List.set_cons_zero])
    refine wpAnyH_done (by kernel_rfl) ?_ _
    refine hH1.out _ _ ?_
    clear hH1 K1
    go_wp2_with fail
    exact HQ.out _ _ _ _ _ _ _ _ _ _ _ _ _ _ _ _ _ _ _ _ _ _ _ _ _ _ _ _ _ HZ3
  · go_simp
    refine ⟨⟨hHeld.k.alloc _, (Keeps.refl (fun _ => False) V2).drew.alloc _ |>.cell r0 (fun e => e)⟩, fun hS1 => ?_⟩
    (try simp only [List.getElem_toArray]); (try simp only [List.getElem_cons_succ]); (try simp only [List.getElem_cons_zero]); (try simp only [Act.put]); (try simp only [List.setIfInBounds_toArray]); (repeat first | simp only [List.set_cons_succ] | simp only [List.set_cons_zero])
    have r2a := ((Keeps.refl (fun _ => False) V2).alloc (.cells #[.int .i64 (qs.length : Int)] 3)).cell r2 (fun e => e)
    refine wpAnyH_one 4 (by kernel_rfl) rfl rfl ?_
    go_simp
    (try simp only [List.getElem_toArray]); (try simp only [List.getElem_cons_succ]); (try simp only [List.getElem_cons_zero]); (try simp only [Act.put]); (try simp only [List.setIfInBounds_toArray]); (repeat first | simp only [List.set_cons_succ] | simp only [List.set_cons_zero])
    refine wpAnyH_one 11 (by kernel_rfl) rfl rfl ?_
    refine wp_append_run _ _ 45 rfl _ _ _ _ rfl rfl hr' ?_
    refine ⟨⟨KK.mono (fun _ _ e => .inl e), CR'.c 0 _ rfl⟩, fun hS3 => ?_⟩
    (try simp only [List.getElem_toArray]); (try simp only [List.getElem_cons_succ]); (try simp only [List.getElem_cons_zero]); (try simp only [Act.put]); (try simp only [List.setIfInBounds_toArray]); (repeat first | simp only [List.set_cons_succ] | simp only [List.set_cons_zero])
    have z2 := CR'.z 2 (by show 2 < 4; decide)
    have x2' := CR'.c 2 _ rfl
    refine wpAnyH_take (i := 12) (v := ?_) rfl (by kernel_rfl) (by kernel_rfl) (by kernel_rfl) (fun _ _ _ h => hQp _ _ _ _ _ h) (Or.inl ⟨by rfl, ?_⟩) (by assumption) ?_
    rotate_left
    · intro wx hSw;  go_simp <;> with_reducible rfl
    (try simp only [List.getElem_toArray]); (try simp only [List.getElem_cons_succ]); (try simp only [List.getElem_cons_zero]); (try simp only [Act.put]); (try simp only [List.setIfInBounds_toArray]); (repeat first | simp only [List.set_cons_succ] | simp only [List.set_cons_zero])
    refine wpAnyH_take (i := 13) (v := ?_) rfl (by kernel_rfl) (by kernel_rfl) (by kernel_rfl) (fun _ _ _ h => hQp _ _ _ _ _ h) (Or.inl ⟨by rfl, ?_⟩) (by assumption) ?_
    rotate_left
    · intro wx hSw;  go_simp <;> with_reducible rfl
    (try simp only [List.getElem_toArray]); (try simp only [List.getElem_cons_succ]); (try simp only [List.getElem_cons_zero]); (try simp only [Act.put]); (try simp only [List.setIfInBounds_toArray]); (repeat first | simp only [List.set_cons_succ] | simp only [List.set_cons_zero])
    refine wpAnyH_one 14 (by kernel_rfl) rfl rfl ?_
    go_simp
    refine ⟨⟨hS3.k.setCell (fun _ => .inr rfl) _, (CR'.set (o := 2) (by show 2 < 4; decide) (.slice a2 (B.length + 1) cap2)).c 0 _ rfl⟩, fun hS4 => ?_⟩
    (try simp only [List.getElem_toArray]); (try simp only [List.getElem_cons_succ]); (try simp only [List.getElem_cons_zero]); (try simp only [Act.put]); (try simp only [List.setIfInBounds_toArray]); (repeat first | simp only [List.set_cons_succ] | simp only [List.set_cons_zero])
    refine wpAnyH_done (by kernel_rfl) ?_ _
    refine hH1.out _ _ ?_
    clear hH1 K1
    go_wp2_with fail
    exact HQ.out _ _ _ _ _ _ _ _ _ _ _ _ _ _ _ _ _ _ _ _ _ _ _ _ _ _ _ _ _ HZ3
end Go.Proofs.YtchbhmolnoggfaaGreatDoor

