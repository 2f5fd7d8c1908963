import Derived.Test.YtgcfckbmmdajhaaLkM
namespace Go.Proofs.Ytgcfckbmmdajhaa
open Go.RowKit
/-- The law's state behind i calls. -/
structure OBS (w1 : World) (i : Nat) (Wr : World) (l : List Cl) (U : List Int) (v v8 v9 : Value) : Prop where
  n : l.length = i
  o : OneL l
  g : ∀ k, k < l.length → goK l (List.range l.length) k = true
  c : ∀ x ∈ l, C64 x
  s : SU (w1.heap.size + 1) Wr w1.heap.size U v
  u : US U (setK l (List.range l.length) l.length)
  a8 : Wr.ownsRow (w1.heap.size + 1) 33 8 v8 i (ccl l)
  a9 : Wr.ownsRow (w1.heap.size + 1) 3 1 v9 i (pvs (List.range i))
  k : Keeps (fun _ => False) w1 Wr
theorem alloc_block (w : World) (o : Obj) : (w.alloc o).heap[w.heap.size]? = some o := by
  show (w.heap.push o)[w.heap.size]? = some o
  exact Array.getElem?_push_size
theorem own_not {W : World} {base size n g : Nat} {e t : TypeId} {v : Value} {l : List Value} (h : W.ownsRow base e size v n l) (hb : ∃ cs, W.heap[g]? = some (.cells cs t (0, 0))) (ht : t ≠ e) : v.ownBlock ≠ some g := by
  intro q
  obtain ⟨cs, x2⟩ := hb
  rcases h.2 with ⟨rfl, -⟩ | ⟨g1, c1, u1, rfl, -, x1, -⟩
  · cases q
  have q : some g1 = some g := q
  injection q with q
  subst q
  rw [x1] at x2
  injection x2 with x2
  injection x2 with _ x2
  exact ht x2.symm
theorem SU.keepS {base : Nat} {W W' : World} {sb : Nat} {U : List Int} {v : Value} {S : Nat → Prop} (h : SU base W sb U v) (k : Keeps S W W') (h1 : ¬ S sb) (h2 : ∀ g, v.ownBlock = some g → ¬ S g) : SU base W' sb U v := ⟨h.c.keep (by show 0 < 1; decide) k h1, k.owns h.o h2, h.lt, Nat.le_trans h.bs k.size⟩
/-- A round behind the kind. -/
def obB (f : Func) : Code := match obT 5 f with
  | .seq (.seq _ (.block _ (.loop (.seq _ (.seq (.block _ c) _))))) _ => seqTl 2 c
  | _ => .skip
set_option maxHeartbeats 1000000 in
set_option maxRecDepth 100000 in
theorem ob_B {w1 wr : World} {i N cap b off : Nat} {l : List Cl} {U : List Int} {v : Value} {a8 a9 : Option Addr} {c8 c9 : Nat} {kk ky ot : Int} {x1 x2 x3 x4 x5 x6 x12 x13 x14 x15 x16 x17 x18 x19 x20 x21 x22 x23 x24 x25 x26 x27 x28 x29 x30 x31 x32 x33 x34 x35 x36 x37 x38 x39 x40 x41 x42 x43 x44 x45 x46 x47 x48 x49 x50 x51 x52 x53 x54 x55 x56 x57 x58 x59 x60 x61 x62 x63 x64 x65 x66 x67 x68 x69 x70 x71 x72 x73 x74 x75 x76 x77 x78 x79 x80 x81 x82 x83 x84 x85 x86 x87 x88 x89 x90 x91 x92 x93 x94 x95 x96 x97 x98 x99 x100 x101 x102 x103 x104 x105 x106 x107 x108 x109 x110 x111 x112 x113 x114 x115 x116 x117 x118 x119 x120 x121 x122 x123 x124 x125 x126 x127 x128 x129 x130 x131 x132 x133 x134 x135 x136 x137 x138 x139 x140 x141 x142 x143 x144 x145 x146 x147 x148 x149 x150 x151 x152 x153 x154 x155 x156 x157 x158 x159 x160 x161 x162 x163 x164 x165 x166 x167 x168 x169 x170 x171 x172 x173 x174 x175 x176 x177 x178 x179 x180 x181 x182 x183 x184 x185 x186 x187 x188 x189 x190 x191 x192 x193 x194 x195 x196 x197 : Value} {Q : Exit → Act → World → Prop} (hOB : OBS w1 i wr l U v (.slice a8 i c8) (.slice a9 i c9)) (hi : i < N) (hi8 : i < 8) (hk1 : 1 ≤ kk) (hk2 : kk ≤ 6) (q1 : wr.cell? ⟨b, off + i * 3 + 1, none⟩ = some (.int .i64 ky)) (q2 : wr.cell? ⟨b, off + i * 3 + 2, none⟩ = some (.int .i64 ot)) (h64 : I64 ky ∧ I64 ot)
    (hQ : ∀ (W' : World) (l' : List Cl) (U' : List Int) (v' : Value) (b8 b9 : Option Addr) (d8 d9 : Nat) (y12 y13 y14 y47 y48 y49 y50 y51 y52 y53 y54 y55 y56 y57 y58 y59 y60 y61 y62 y63 y64 y65 y66 y67 y68 y69 y70 y71 y72 y73 y74 y75 y76 y77 y78 y79 y80 y81 y82 y83 y84 : Value), OBS w1 (i + 1) W' l' U' v' (.slice b8 (i + 1) d8) (.slice b9 (i + 1) d9) → Q .normal { tmps := #[.slice (some ⟨b, off, none⟩) N cap, x1, x2, x3, x4, x5, x6, .pointer (some ⟨w1.heap.size, 0, none⟩), .slice b8 (i + 1) d8, .slice b9 (i + 1) d9, .int .i64 (i : Int), .int .i64 kk, y12, y13, y14, x15, x16, x17, x18, x19, x20, x21, x22, x23, x24, x25, x26, x27, x28, x29, x30, x31, x32, x33, x34, x35, x36, x37, x38, x39, x40, x41, x42, x43, x44, x45, x46, y47, y48, y49, y50, y51, y52, y53, y54, y55, y56, y57, y58, y59, y60, y61, y62, y63, y64, y65, y66, y67, y68, y69, y70, y71, y72, y73, y74, y75, y76, y77, y78, y79, y80, y81, y82, y83, y84, x85, x86, x87, x88, x89, x90, x91, x92, x93, x94, x95, x96, x97, x98, x99, x100, x101, x102, x103, x104, x105, x106, x107, x108, x109, x110, x111, x112, x113, x114, x115, x116, x117, x118, x119, x120, x121, x122, x123, x124, x125, x126, x127, x128, x129, x130, x131, x132, x133, x134, x135, x136, x137, x138, x139, x140, x141, x142, x143, x144, x145, x146, x147, x148, x149, x150, x151, x152, x153, x154, x155, x156, x157, x158, x159, x160, x161, x162, x163, x164, x165, x166, x167, x168, x169, x170, x171, x172, x173, x174, x175, x176, x177, x178, x179, x180, x181, x182, x183, x184, x185, x186, x187, x188, x189, x190, x191, x192, x193, x194, x195, x196, x197], defers := [] } W') : (obB Try.f3).wp Try.prog Q { tmps := #[.slice (some ⟨b, off, none⟩) N cap, x1, x2, x3, x4, x5, x6, .pointer (some ⟨w1.heap.size, 0, none⟩), .slice a8 i c8, .slice a9 i c9, .int .i64 (i : Int), .int .i64 kk, x12, x13, x14, x15, x16, x17, x18, x19, x20, x21, x22, x23, x24, x25, x26, x27, x28, x29, x30, x31, x32, x33, x34, x35, x36, x37, x38, x39, x40, x41, x42, x43, x44, x45, x46, x47, x48, x49, x50, x51, x52, x53, x54, x55, x56, x57, x58, x59, x60, x61, x62, x63, x64, x65, x66, x67, x68, x69, x70, x71, x72, x73, x74, x75, x76, x77, x78, x79, x80, x81, x82, x83, x84, x85, x86, x87, x88, x89, x90, x91, x92, x93, x94, x95, x96, x97, x98, x99, x100, x101, x102, x103, x104, x105, x106, x107, x108, x109, x110, x111, x112, x113, x114, x115, x116, x117, x118, x119, x120, x121, x122, x123, x124, x125, x126, x127, x128, x129, x130, x131, x132, x133, x134, x135, x136, x137, x138, x139, x140, x141, x142, x143, x144, x145, x146, x147, x148, x149, x150, x151, x152, x153, x154, x155, x156, x157, x158, x159, x160, x161, x162, x163, x164, x165, x166, x167, x168, x169, x170, x171, x172, x173, x174, x175, x176, x177, x178, x179, x180, x181, x182, x183, x184, x185, x186, x187, x188, x189, x190, x191, x192, x193, x194, x195, x196, x197], defers := [] } wr := by
  have HOB : Hid (OBS w1 i wr l U v (.slice a8 i c8) (.slice a9 i c9)) := hOB
  have HQ : Hid _ := hQ
  have HKK : Hid (1 ≤ kk ∧ kk ≤ 6) := ⟨hk1, hk2⟩
  have H64 : Hid (I64 ky ∧ I64 ot) := h64
  clear hOB hQ hk1 hk2 h64
  have m3 : IntKind.i64.wrap (3 * (i : Int)) = 3 * (i : Int) := by rw [IntKind.wrap_i64]; omega
  have m31 : IntKind.i64.wrap (3 * (i : Int) + 1) = 3 * (i : Int) + 1 := by rw [IntKind.wrap_i64]; omega
  have m32 : IntKind.i64.wrap (3 * (i : Int) + 2) = 3 * (i : Int) + 2 := by rw [IntKind.wrap_i64]; omega
  have hlt : i < N := hi
  have m1b : decide ((i : Int) < (N : Int)) = true := decide_eq_true (by omega)
  have m2b : decide (i < N) = true := decide_eq_true (by omega)
  have m3b : (i : Int) < (N : Int) := by omega
  have m4b : (0 : Int) ≤ (i : Int) := by omega
  have m5b : IntKind.i64.wrap ((i : Int) + 1) = (i : Int) + 1 := by rw [IntKind.wrap_i64]; omega
  dsimp only [obB, obT, seqTl, Try.f3]
  refine wp_seq_k (fun KK hKK => ?_)
  have hKH : Hid _ := hKK
  clear hKK
  go_region_held3 (fun w' => w'.cell? ⟨b, off + i * 3 + 1, none⟩ = some (.int .i64 ky) ∧ w'.cell? ⟨b, off + i * 3 + 2, none⟩ = some (.int .i64 ot)) (go_keep) (fail)
  refine hKH.out _ _ ?_
  clear hKH KK
  obtain ⟨c, hcd⟩ : ∃ c : Cl, c = ⟨kk, ky, ot, false, 0, 3 * (i : Int), 3 * (i : Int) + 1, 3 * (i : Int) + 2⟩ := ⟨_, rfl⟩
  obtain ⟨W2, hW2⟩ : ∃ W2, W2 = (wr.alloc (.cells #[.int .i64 kk, .int .i64 ky, .int .i64 ot, .bool false, .int .i64 0, .int .i64 (3 * (i : Int)), .int .i64 (3 * (i : Int) + 1), .int .i64 (3 * (i : Int) + 2)] 33)).drew := ⟨_, rfl⟩
  have k2 : Keeps (fun _ => False) wr W2 := by rw [hW2]; exact ((Keeps.refl _ wr).alloc _).drew
  have hI2 : CL W2 wr.heap.size c.cells := by
    rw [hW2, hcd]
    exact (CL.made wr (Cl.cells ⟨kk, ky, ot, false, 0, 3 * (i : Int), 3 * (i : Int) + 1, 3 * (i : Int) + 2⟩) 33).keep (by show 0 < 8; decide) (Keeps.refl (fun _ => False) _).drew (fun e => e)
  have hB2 : ∃ cs, W2.heap[wr.heap.size]? = some (.cells cs 33 (0, 0)) := by
    rw [hW2]
    exact ⟨_, alloc_block wr _⟩
  rw [← hW2]
  clear hW2
  have HOC : Hid (∀ y r, OneC (trn c y r) i) := fun y r => by rw [hcd]; exact ⟨HKK.out.1, HKK.out.2, rfl, rfl, rfl⟩
  have HC6 : Hid (∀ y r, C64 (trn c y r)) := fun y r => by rw [hcd]; exact ⟨H64.out.1, H64.out.2⟩
  have hOB := HOB.out
  have hUL : U.length ≤ 1000 := by
    rw [hOB.u.len (rise_setK _ _ _)]
    have h1 := setK_len l (List.range l.length) l.length
    have h2 := hOB.n
    omega
  have hck : 1 ≤ c.kind ∧ c.kind ≤ 6 := by rw [hcd]; exact HKK.out
  clear hcd
  have hdo := udoes_any (hOB.s.keep k2) hOB.u (rise_setK _ _ _) hUL c hck.1 hck.2
  unfold UdP at hdo
  obtain ⟨yy, hyy⟩ : ∃ yy, yy = (doesL (setK l (List.range l.length) l.length) c).1 := ⟨_, rfl⟩
  obtain ⟨rr, hrr⟩ : ∃ rr, rr = (doesL (setK l (List.range l.length) l.length) c).2.1 := ⟨_, rfl⟩
  rw [← hyy, ← hrr] at hdo
  have HYY : Hid (yy = (doesL (setK l (List.range l.length) l.length) c).1 ∧ rr = (doesL (setK l (List.range l.length) l.length) c).2.1) := ⟨hyy, hrr⟩
  clear hyy hrr hck hUL
  have HR2 := run_clB hI2
  have zs : w1.heap.size + 1 ≤ wr.heap.size := hOB.s.bs
  have HVB : Hid (∀ g, v.ownBlock = some g → w1.heap.size + 1 ≤ g ∧ g < wr.heap.size) := fun g e => ⟨owns_baseT hOB.s.o g e, owns_lt' hOB.s.o g e⟩
  have HK2 : Hid (Keeps (fun _ => False) wr W2) := k2
  have HI2 : Hid (CL W2 wr.heap.size c.cells) := hI2
  have HB2 : Hid (∃ cs, W2.heap[wr.heap.size]? = some (.cells cs 33 (0, 0))) := hB2
  clear hOB k2 hI2 hB2 q1 q2
  refine wp_seq_k (fun KK hKK => ?_)
  have hKH : Hid _ := hKK
  clear hKK
  go_wp2_with (first | (refine wpList_load_runL rfl 33 _ rfl ⟨wr.heap.size, 0, none⟩ rfl _ HR2 ?_; clear HR2) | (go_at_call 5; refine hdo.mono ?_; clear hdo; rintro e w3 ⟨U3, v3, rfl, hS3, hu3, k3⟩))
  refine hKH.out _ _ ?_
  clear hKH KK
  have HU3 : Hid (US U3 (doesL (setK l (List.range l.length) l.length) c).2.2) := hu3
  have HS3 : Hid (SU (w1.heap.size + 1) w3 w1.heap.size U3 v3) := hS3
  have HK3 : Hid (Keeps (fun i => i = w1.heap.size ∨ v.ownBlock = some i) W2 w3) := k3
  have hI3 : CL w3 wr.heap.size c.cells := HI2.out.keep (by show 0 < 8; decide) k3 (fun e => by
    rcases e with e | e
    · omega
    · have := (HVB.out _ e).2
      omega)
  have HB3 : Hid (∃ cs, w3.heap[wr.heap.size]? = some (.cells cs 33 (0, 0))) := by
    obtain ⟨cs, e⟩ := HB2.out
    have hl : wr.heap.size < W2.heap.size := by
      rcases Nat.lt_or_ge wr.heap.size W2.heap.size with h | h
      · exact h
      · rw [Array.getElem?_eq_none h] at e
        cases e
    exact ⟨cs, (k3.block _ hl (fun e => by
      rcases e with e | e
      · omega
      · have := (HVB.out _ e).2
        omega)).trans e⟩
  clear hu3 hS3 k3
  refine wp_seq_k (fun KK hKK => ?_)
  have hKH : Hid _ := hKK
  clear hKK
  go_wp2_with (refine wpList_store_bL rfl rfl _ _ rfl wr.heap.size 3 rfl yy rfl hI3 (by show 3 < 8; decide) ?_; intro w4 hI4 k4; have HI4 : Hid (CL w4 wr.heap.size (c.cells.set 3 (.bool yy))) := hI4; have HK4 : Hid (Keeps (fun k => k = wr.heap.size) w3 w4) := k4; clear hI3 k4)
  refine hKH.out _ _ ?_
  clear hKH KK
  refine wp_seq_k (fun KK hKK => ?_)
  have hKH : Hid _ := hKK
  clear hKK
  go_wp2_with (refine wpList_store_kL rfl rfl _ _ rfl wr.heap.size 4 rfl rr rfl hI4 (by show 4 < 8; decide) ?_; intro w5 hI5 k5; clear hI4)
  refine hKH.out _ _ ?_
  clear hKH KK
  have hI5 : CL w5 wr.heap.size (trn c yy rr).cells := hI5
  have HR5 := run_clB hI5
  have k35 : Keeps (fun k => k = wr.heap.size) w3 w5 := HK4.out.trans k5
  have hOB := HOB.out
  have hV3 := own_not HS3.out.o HB3.out (by decide)
  have hS5 : SU (w1.heap.size + 1) w5 w1.heap.size U3 v3 := HS3.out.keepS k35 (by show ¬ (_ = _); omega) (fun g e e' => hV3 (by have e' : g = wr.heap.size := e'; rw [← e']; exact e))
  have e8 := own_apart hOB.s.o hOB.a8 (by decide)
  have e9 := own_apart hOB.s.o hOB.a9 (by decide)
  have l8 : ∀ g, (Value.slice a8 i c8).ownBlock = some g → w1.heap.size + 1 ≤ g ∧ g < wr.heap.size := fun g e => ⟨owns_baseT hOB.a8 g e, owns_lt' hOB.a8 g e⟩
  have l9 : ∀ g, (Value.slice a9 i c9).ownBlock = some g → w1.heap.size + 1 ≤ g ∧ g < wr.heap.size := fun g e => ⟨owns_baseT hOB.a9 g e, owns_lt' hOB.a9 g e⟩
  have o8 : w5.ownsRow (w1.heap.size + 1) 33 8 (.slice a8 i c8) i (ccl l) := k35.owns (HK3.out.owns (HK2.out.owns hOB.a8 (fun _ _ e => e)) (fun g e e' => by
    rcases e' with e' | e'
    · have := (l8 g e).1
      omega
    · exact e8 g e' e)) (fun g e e' => by have := (l8 g e).2; have e' : g = wr.heap.size := e'; omega)
  have o9 : w5.ownsRow (w1.heap.size + 1) 3 1 (.slice a9 i c9) i (pvs (List.range i)) := k35.owns (HK3.out.owns (HK2.out.owns hOB.a9 (fun _ _ e => e)) (fun g e e' => by
    rcases e' with e' | e'
    · have := (l9 g e).1
      omega
    · exact e9 g e' e)) (fun g e e' => by have := (l9 g e).2; have e' : g = wr.heap.size := e'; omega)
  have K5 : Keeps (fun _ => False) w1 w5 := ((hOB.k.trans HK2.out).trans' HK3.out (fun _ _ e => e) (fun g hg e => by
    rcases e with e | e
    · omega
    · have := (HVB.out g e).1
      omega)).trans' k35 (fun _ _ e => e) (fun g hg e => by have e : g = wr.heap.size := e; omega)
  have z5 : w1.heap.size + 1 ≤ w5.heap.size := hS5.bs
  obtain ⟨b8, d8, W6, hr6, hO6, k6, -⟩ := append_cl o8 z5 (by omega) (trn c yy rr)
  have hS6 : SU (w1.heap.size + 1) W6 w1.heap.size U3 v3 := hS5.keepS k6 (fun e => by have := (l8 _ e).1; omega) (fun g e e' => own_apart hS5.o o8 (by decide) g e e')
  have o96 := k6.owns o9 (fun g e e' => own_apart o9 o8 (by decide) g e e')
  have K6 : Keeps (fun _ => False) w1 W6 := K5.trans' k6 (fun _ _ e => e) (fun g hg e => by have := (l8 g e).1; omega)
  obtain ⟨b9, d9, W7, hr7, hO7, k7, -⟩ := append_pl o96 hS6.bs (by omega) i
  have hS7 : SU (w1.heap.size + 1) W7 w1.heap.size U3 v3 := hS6.keepS k7 (fun e => by have := (l9 _ e).1; omega) (fun g e e' => own_apart hS6.o o96 (by decide) g e e')
  have hO67 := k7.owns hO6 (fun g e e' => own_apart hO6 o96 (by decide) g e e')
  have K7 : Keeps (fun _ => False) w1 W7 := K6.trans' k7 (fun _ _ e => e) (fun g hg e => by have := (l9 g e).1; omega)
  have HO : Hid (OBS w1 (i + 1) W7 (l ++ [trn c yy rr]) U3 v3 (.slice b8 (i + 1) d8) (.slice b9 (i + 1) d9)) := by
    have hn := hOB.n
    refine ⟨by rw [List.length_append, hn]; rfl, hOB.o.snoc (by rw [hn]; exact HOC.out _ _), go_snoc hOB.g (by rw [turn_does]; exact HYY.out.1) (by rw [turn_does]; exact HYY.out.2), ?_, hS7, ?_, hO67, ?_, K7⟩
    · intro x hx
      rcases List.mem_append.1 hx with h | h
      · exact hOB.c x h
      · rw [List.mem_singleton.1 h]
        exact HC6.out _ _
    · rw [set_snoc, turn_does]
      exact HU3.out
    · rw [List.range_succ]
      exact hO7
  clear hOB hV3 hS5 e8 e9 l8 l9 o8 o9 K5 z5 hO6 k6 hS6 o96 K6 hO7 k7 hS7 hO67 K7 k35 k5 hI5 HK2 HK3 HK4 HB2 HB3 HI2 HI4 HS3 HU3 HYY HOC HC6 HKK H64 HVB zs HOB
  have HR7 : Hid (_ = _) := hr7
  clear hr7
  refine wp_seq_k (fun KK hKK => ?_)
  have hKH : Hid _ := hKK
  clear hKK
  go_wp2_with (first | (refine wpList_load_runL rfl 33 _ rfl ⟨wr.heap.size, 0, none⟩ rfl _ HR5 ?_; clear HR5) | (refine wpList_build1L uC iC (by decide) (by decide) rfl _ rfl (trn c yy rr).cells rfl rfl ?_) | (at_builtin; refine wpList_append_tL rfl _ _ _ rfl _ _ _ W6 rfl rfl hr6 ?_; clear hr6; have hr7 := HR7.out; clear HR7))
  refine hKH.out _ _ ?_
  clear hKH KK
  go_wp2_with (at_builtin; refine wpList_append_tL rfl _ _ _ rfl _ _ _ W7 rfl rfl hr7 ?_; clear hr7)
  exact HQ.out W7 _ U3 v3 b8 b9 d8 d9 _ _ _ _ _ _ _ _ _ _ _ _ _ _ _ _ _ _ _ _ _ _ _ _ _ _ _ _ _ _ _ _ _ _ _ _ _ _ _ _ _ HO.out
end Go.Proofs.Ytgcfckbmmdajhaa
