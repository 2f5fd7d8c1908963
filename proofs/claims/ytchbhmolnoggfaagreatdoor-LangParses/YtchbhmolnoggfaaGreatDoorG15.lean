import Derived.Test.YtchbhmolnoggfaaGreatDoorG14
namespace Go.Proofs.YtchbhmolnoggfaaGreatDoor
open Go.RowKit Go.Deep Go.ChangeShapes Go.WideShapes Go.ChangeAt
attribute [local go_sem] Oper.semAt_some run_store_nf run_store_f
theorem yI : Tryz.prog.underlying 28 = some (.slice 59) := by kernel_rfl
theorem yI0 : (Tryz.prog.info? 59).map (fun i => (i.zero, i.size, i.bytes)) = some (some (.agg #[.int .i64 0, .int .i64 0, .bool false, .int .i64 0, .bool false, .int .i64 0, .bool false, .int .i64 0, .int .i64 0, .int .i64 0, .int .i64 0]), 11, 88) := by kernel_rfl
theorem append_y {W : World} {base k : Nat} {v : Value} {qs : List Ins} (hown : W.ownsRow base 59 11 v k (icl qs)) (hb : base ≤ W.heap.size) (hk : (k + 1) * 88 ≤ 140737488355328) (q : Ins) :
    ∃ v' w', (Builtin.append_ #[28, 28] 28 #[v, .slice (some ⟨W.heap.size, 0, none⟩) 1 1]).run Tryz.prog (W.alloc (.cells #[.int .i64 q.code, .int .i64 q.dst, .bool q.oR, .int .i64 q.oN, .bool q.xR, .int .i64 q.xN, .bool q.yR, .int .i64 q.yN, .int .i64 q.op, .int .i64 q.rel, .int .i64 q.to] 59)) = .ok v' w' ∧ w'.ownsRow base 59 11 v' (k + 1) (icl (qs ++ [q])) ∧ Keeps (fun i => v.ownBlock = some i) W w' ∧ (v'.ownBlock = v.ownBlock ∨ v'.ownBlock = some (W.heap.size + 1)) := by
  obtain ⟨i0, hi0, hz0, hz1, hz2⟩ : ∃ i, Tryz.prog.info? 59 = some i ∧ i.zero = some (.agg #[.int .i64 0, .int .i64 0, .bool false, .int .i64 0, .bool false, .int .i64 0, .bool false, .int .i64 0, .int .i64 0, .int .i64 0, .int .i64 0]) ∧ i.size = 11 ∧ i.bytes = 88 := by
    have h := yI0
    cases hq : Tryz.prog.info? 59 with
    | none => rw [hq] at h; cases h
    | some i =>
      rw [hq] at h
      injection h with h
      injection h with h1 h2
      injection h2 with h2 h3
      exact ⟨i, rfl, h1, h2, h3⟩
  obtain ⟨v', w', hr, ho, hg, _, hbl⟩ := run_append_own_at (P := Tryz.prog) (w := W.alloc (.cells q.cells.toArray 59)) base 28 28 59 i0 _ 11 88 yI hi0 hz0 hz1 hz2 rfl (by decide) v k (icl qs) (((Keeps.refl (fun _ => False) W).alloc _).owns hown (fun _ _ e => e)) ⟨W.heap.size, 0, none⟩ 1 1 q.cells rfl (fun j u hu => by
      rw [add_at]
      have := (CL.made W q.cells 59).c j u hu
      simpa using this) (fun u hu => by
      have h1 := all_oneCell_ins q
      rw [Array.all_eq_true'] at h1
      exact h1 u (by simpa using hu)) (by unfold maxLen; omega) (by omega) (Nat.le_trans hb (by simp))
  refine ⟨v', w', hr, ?_, ((Keeps.refl _ W).alloc _).grown hg (fun i _ e => e), by simpa using hbl⟩
  have : icl (qs ++ [q]) = icl qs ++ q.cells := by unfold icl; rw [List.flatMap_append]; simp
  rw [this]; exact ho
structure WC (w : World) (a : Option Addr) (g : Nat) (ps : List Pc) : Prop where
  c : ∀ i p, ps[i]? = some p → a = some ⟨g, 0, none⟩ ∧ w.cell? ⟨g, i * 3, none⟩ = some (.string p.t) ∧ w.cell? ⟨g, i * 3 + 1, none⟩ = some (.int .i64 p.col) ∧ w.cell? ⟨g, i * 3 + 2, none⟩ = some (.int .i64 (p.col + (p.t.size : Int)))
theorem WC.keep {w w' : World} {a : Option Addr} {g : Nat} {ps : List Pc} {S : Nat → Prop} (h : WC w a g ps) (k : Keeps S w w') (hS : ¬ S g) : WC w' a g ps :=
  ⟨fun i p hp => ⟨(h.c i p hp).1, k.cell (h.c i p hp).2.1 hS, k.cell (h.c i p hp).2.2.1 hS, k.cell (h.c i p hp).2.2.2 hS⟩⟩
structure LY (w0 w : World) (base R g rb : Nat) (a : Option Addr) (ps : List Pc) (cv nv wv uv : Value) (qs : List Ins) (ns : List (ByteArray × Nat)) (js : List (Nat × Pc)) : Prop where
  y : RY w base R cv nv wv uv qs ns js
  wc : WC w a g ps
  f : CL w rb [.int .i64 0, .int .i64 0, .int .i64 0]
  lt : g < w.heap.size
  gn : g ≠ R ∧ rb ≠ R ∧ rb ≠ g
  dg : ∀ v ∈ [cv, nv, wv, uv], v.ownBlock ≠ some g ∧ v.ownBlock ≠ some rb
  k : Keeps (fun i => base ≤ i ∨ i = R) w0 w
  bg : base ≤ rb
  bw : base ≤ w.heap.size
def LnP (w0 : World) (base R N : Nat) (RES : Except Flt Sx) (e : Ending) (w' : World) : Prop := match RES with
  | .error fl => e = .returned (.agg #[.int .i64 fl.1, .int .i64 fl.2.1, .int .i64 fl.2.2]) ∧ Keeps (fun i => base ≤ i ∨ i = R) w0 w'
  | .ok s => e = .returned (.agg #[.int .i64 0, .int .i64 0, .int .i64 0]) ∧ (∃ cv nv wv uv ns, RY w' base R cv nv wv uv s.qs ns s.js ∧ s.f = lk ns ∧ ns.length ≤ N) ∧ Keeps (fun i => base ≤ i ∨ i = R) w0 w'
theorem iFr : (Tryz.prog.info? 30).map (·.size) = some 3 := by kernel_rfl
def lineE (f : Func) : Code := match f.body with | some (.seq _ (.seq _ (.seq _ (.seq _ (.seq _ (.seq _ (.seq _ (.seq _ (.seq _ (.seq _ t)))))))))) => t | _ => .skip
set_option maxHeartbeats 2000000 in
set_option maxRecDepth 1000000 in
theorem line_extra {w0 w : World} {base R g rb ib L cap : Nat} {n : Int} {a : Option Addr} {ps : List Pc} {cv nv wv uv : Value} {qs : List Ins} {ns : List (ByteArray × Nat)} {js : List (Nat × Pc)} {P : Ending → World → Prop} {i : Nat} {p : Pc} {x3 x4 x5 x8 x9 x10 x11 x13 x14 x15 x16 x17 x18 x19 x20 x21 x22 x23 x24 x25 x26 x27 x28 x29 x30 x31 x32 x33 x34 x35 x36 x37 x38 x39 x40 x41 x42 x43 x44 x45 x46 x47 x48 x49 x50 x51 x52 x53 x54 x55 x56 x57 x58 x59 x60 x61 x62 x63 x64 x65 x66 x67 x68 x69 x70 x71 x72 x73 x74 x75 x76 x77 x78 x79 x80 x81 x82 x83 x84 x85 x86 x87 x88 x89 x90 x91 x92 x93 x94 x95 x96 x97 x98 x99 x100 x101 x102 x103 x104 x105 x106 x107 x108 x109 x110 x111 x112 x113 x114 x115 x116 x117 x118 x119 x120 x121 x122 x123 x124 x125 x126 x127 x128 x129 x130 x131 x132 x133 x134 x135 x136 x137 x138 x139 x140 x141 x142 x143 x144 x145 x146 x147 x148 x149 x150 x151 x152 x153 x154 x155 x156 x157 x158 x159 x160 x161 x162 x163 x164 x165 x166 x167 x168 x169 x170 x171 x172 x173 x174 x175 x176 x177 x178 x179 x180 x181 x182 x183 x184 x185 x186 x187 x188 x189 x190 x191 x192 x193 x194 x195 x196 : Value} (hL : L = ps.length) (hp : ps[i + 1]? = some p) (hS : LY w0 w base R g rb a ps cv nv wv uv qs ns js) (hl64 : L ≤ 9000)
    (hP : ∀ w', Keeps (fun i => base ≤ i ∨ i = R) w0 w' → P (.returned (.agg #[.int .i64 104, .int .i64 n, .int .i64 p.col])) w') :
    (lineE Tryz.f14).wp Tryz.prog (bodyPost Tryz.prog Tryz.f14 P) { tmps := #[.pointer (some ⟨R, 0, none⟩), .slice a L cap, .int .i64 n, x3, x4, x5, .pointer (some ⟨rb, 0, none⟩), .int .i64 (i : Int), x8, x9, x10, x11, .pointer (some ⟨ib, 0, none⟩), x13, x14, x15, x16, x17, x18, x19, x20, x21, x22, x23, x24, x25, x26, x27, x28, x29, x30, x31, x32, x33, x34, x35, x36, x37, x38, x39, x40, x41, x42, x43, x44, x45, x46, x47, x48, x49, x50, x51, x52, x53, x54, x55, x56, x57, x58, x59, x60, x61, x62, x63, x64, x65, x66, x67, x68, x69, x70, x71, x72, x73, x74, x75, x76, x77, x78, x79, x80, x81, x82, x83, x84, x85, x86, x87, x88, x89, x90, x91, x92, x93, x94, x95, x96, x97, x98, x99, x100, x101, x102, x103, x104, x105, x106, x107, x108, x109, x110, x111, x112, x113, x114, x115, x116, x117, x118, x119, x120, x121, x122, x123, x124, x125, x126, x127, x128, x129, x130, x131, x132, x133, x134, x135, x136, x137, x138, x139, x140, x141, x142, x143, x144, x145, x146, x147, x148, x149, x150, x151, x152, x153, x154, x155, x156, x157, x158, x159, x160, x161, x162, x163, x164, x165, x166, x167, x168, x169, x170, x171, x172, x173, x174, x175, x176, x177, x178, x179, x180, x181, x182, x183, x184, x185, x186, x187, x188, x189, x190, x191, x192, x193, x194, x195, x196], defers := [] } w := by
  have hlt : i + 1 < L := by rw [hL]; exact (List.getElem?_eq_some_iff.1 hp).1
  obtain ⟨e1, _, c1, _⟩ := hS.wc.c (i + 1) p hp
  subst e1
  have hI : decide ((i : Int) + 1 < (L : Int)) = true := decide_eq_true (by omega)
  have hJ : (i : Int) + 1 < (L : Int) := by omega
  have hi0 : (0 : Int) ≤ (i : Int) + 1 := by omega
  have hf := hS.f
  have HP : Hid (∀ w', Keeps (fun i => base ≤ i ∨ i = R) w0 w' → P (.returned (.agg #[.int .i64 104, .int .i64 n, .int .i64 p.col])) w') := hP
  have HK := hS.k
  have hbg := hS.bg
  clear hP hS hp hL
  generalize p.col = pc at *
  dsimp only [lineE, Tryz.f14]
  go_wp2_with (refine wpList_store_cl rfl 30 _ _ rfl rb 0 3 _ rfl rfl rfl hf (by show 3 ≤ 3; decide) iFr (all_oneCell_toArray (by simp [Value.oneCell'])) ?_; intro w5 hc5 k5 hsz5; clear hsz5; have y0 := hc5.c 0 _ rfl; have y1 := hc5.c 1 _ rfl; have y2 := hc5.c 2 _ rfl)
  (try simp only [Exit.inBlock, Exit.then])
  refine bodyPost_ret (v := .agg #[.int .i64 104, .int .i64 n, .int .i64 pc]) (by rw [results_cell1 rfl]; go_simp) rfl (HP.out _ ?_)
  exact HK.trans' k5 (fun _ _ e => e) (fun i hi e => by have e : i = rb := e; omega)
set_option maxHeartbeats 2000000 in
set_option maxRecDepth 1000000 in
theorem line_done {w0 w : World} {base R g rb ib L cap : Nat} {n : Int} {a : Option Addr} {ps : List Pc} {cv nv wv uv : Value} {qs : List Ins} {ns : List (ByteArray × Nat)} {js : List (Nat × Pc)} {P : Ending → World → Prop} {i : Nat} {u : Ins} {x3 x4 x5 x8 x9 x10 x11 x13 x14 x15 x16 x17 x18 x19 x20 x21 x22 x23 x24 x25 x26 x27 x28 x29 x30 x31 x32 x33 x34 x35 x36 x37 x38 x39 x40 x41 x42 x43 x44 x45 x46 x47 x48 x49 x50 x51 x52 x53 x54 x55 x56 x57 x58 x59 x60 x61 x62 x63 x64 x65 x66 x67 x68 x69 x70 x71 x72 x73 x74 x75 x76 x77 x78 x79 x80 x81 x82 x83 x84 x85 x86 x87 x88 x89 x90 x91 x92 x93 x94 x95 x96 x97 x98 x99 x100 x101 x102 x103 x104 x105 x106 x107 x108 x109 x110 x111 x112 x113 x114 x115 x116 x117 x118 x119 x120 x121 x122 x123 x124 x125 x126 x127 x128 x129 x130 x131 x132 x133 x134 x135 x136 x137 x138 x139 x140 x141 x142 x143 x144 x145 x146 x147 x148 x149 x150 x151 x152 x153 x154 x155 x156 x157 x158 x159 x160 x161 x162 x163 x164 x165 x166 x167 x168 x169 x170 x171 x172 x173 x174 x175 x176 x177 x178 x179 x180 x181 x182 x183 x184 x185 x186 x187 x188 x189 x190 x191 x192 x193 x194 x195 x196 : Value} (hL : i + 1 = L) (hl64 : L ≤ 9000) (hS : LY w0 w base R g rb a ps cv nv wv uv qs ns js) (hU : CL w ib u.cells) (hib : ib ≠ R ∧ ib ≠ rb ∧ cv.ownBlock ≠ some ib) (hq : qs.length ≤ 64)
    (hP : ∀ w' cv', RY w' base R cv' nv wv uv (qs ++ [u]) ns js → Keeps (fun i => base ≤ i ∨ i = R) w0 w' → P (.returned (.agg #[.int .i64 0, .int .i64 0, .int .i64 0])) w') :
    (lineE Tryz.f14).wp Tryz.prog (bodyPost Tryz.prog Tryz.f14 P) { tmps := #[.pointer (some ⟨R, 0, none⟩), .slice a L cap, .int .i64 n, x3, x4, x5, .pointer (some ⟨rb, 0, none⟩), .int .i64 (i : Int), x8, x9, x10, x11, .pointer (some ⟨ib, 0, none⟩), x13, x14, x15, x16, x17, x18, x19, x20, x21, x22, x23, x24, x25, x26, x27, x28, x29, x30, x31, x32, x33, x34, x35, x36, x37, x38, x39, x40, x41, x42, x43, x44, x45, x46, x47, x48, x49, x50, x51, x52, x53, x54, x55, x56, x57, x58, x59, x60, x61, x62, x63, x64, x65, x66, x67, x68, x69, x70, x71, x72, x73, x74, x75, x76, x77, x78, x79, x80, x81, x82, x83, x84, x85, x86, x87, x88, x89, x90, x91, x92, x93, x94, x95, x96, x97, x98, x99, x100, x101, x102, x103, x104, x105, x106, x107, x108, x109, x110, x111, x112, x113, x114, x115, x116, x117, x118, x119, x120, x121, x122, x123, x124, x125, x126, x127, x128, x129, x130, x131, x132, x133, x134, x135, x136, x137, x138, x139, x140, x141, x142, x143, x144, x145, x146, x147, x148, x149, x150, x151, x152, x153, x154, x155, x156, x157, x158, x159, x160, x161, x162, x163, x164, x165, x166, x167, x168, x169, x170, x171, x172, x173, x174, x175, x176, x177, x178, x179, x180, x181, x182, x183, x184, x185, x186, x187, x188, x189, x190, x191, x192, x193, x194, x195, x196], defers := [] } w := by
  have hI := hS.y
  have hI0 : decide ((i : Int) + 1 < (L : Int)) = false := decide_eq_false (by omega)
  have hI1 : ¬ (i : Int) + 1 < (L : Int) := by omega
  have hI2 : i ≤ 9000 := by omega
  clear hL hl64
  have hf := hS.f
  have HK := hS.k
  have hbg := hS.bg
  have hbw := hS.bw
  have hrR := hS.gn.2.1
  have hdg := hS.dg cv (by simp)
  have HDG : Hid (∀ v ∈ [nv, wv, uv], v.ownBlock ≠ some rb) := fun v hv => (hS.dg v (by simp only [List.mem_cons, List.mem_nil_iff, or_false] at hv ⊢; exact .inr hv)).2
  clear hS
  obtain ⟨ac, capc, rfl⟩ := slice_of_owns hI.o
  obtain ⟨cd, dst, oR, oN, xR, xN, yR, yN, op, rel, to⟩ := u
  have Kd : Keeps (fun _ => False) w w.drew := (Keeps.refl _ w).drew
  obtain ⟨v', w', hr, ho, kk, hbl⟩ := append_y (Kd.owns hI.o (fun _ _ e => e)) (by show base ≤ w.heap.size; omega) (by omega) ⟨cd, dst, oR, oN, xR, xN, yR, yN, op, rel, to⟩
  obtain ⟨a', cap', rfl⟩ := slice_of_owns ho
  have hr' : (Builtin.append_ #[28, 28] 28 #[.slice ac qs.length capc, .slice (some ⟨w.heap.size, 0, none⟩) 1 1]).run Tryz.prog (w.alloc (.cells #[.int .i64 cd, .int .i64 dst, .bool oR, .int .i64 oN, .bool xR, .int .i64 xN, .bool yR, .int .i64 yN, .int .i64 op, .int .i64 rel, .int .i64 to] 59)).drew = .ok (.slice a' (qs.length + 1) cap') w' := hr
  clear hr
  have KK : Keeps (fun k => Value.ownBlock (.slice ac qs.length capc) = some k) w w' := (Kd.mono (fun _ _ e => e.elim)).trans kk
  have dC := hI.dR (.slice ac qs.length capc) (by simp)
  have CR' := hI.c.keep (by show 0 < 4; decide) KK dC
  have r0 := hI.c.c 0 _ rfl
  have HP : Hid (∀ w' cv', RY w' base R cv' nv wv uv (qs ++ [⟨cd, dst, oR, oN, xR, xN, yR, yN, op, rel, to⟩]) ns js → Keeps (fun i => base ≤ i ∨ i = R) w0 w' → P (.returned (.agg #[.int .i64 0, .int .i64 0, .int .i64 0])) w') := hP
  have kS : Keeps (fun k => k = R) w' (w'.setCell ⟨R, 0, none⟩ (.slice a' (qs.length + 1) cap')) := (Keeps.refl _ w').setA 0 _
  have hf9 := (hf.keep (by show 0 < 3; decide) KK hdg.2).keep (by show 0 < 3; decide) kS hrR
  clear hP
  dsimp only [lineE, Tryz.f14]
  go_wp2_with fail
  refine wp_region_held_drew (S := fun w' => Keeps (fun i => Value.ownBlock (.slice ac qs.length capc) = some i ∨ i = R) w w') (by kernel_rfl) (Keeps.refl _ w).drew (fun hHeld => ?_)
  refine wpAnyH_take (i := 0) (v := ?_) rfl (by kernel_rfl) (by kernel_rfl) (by kernel_rfl) (fun _ _ _ h => h) (Or.inl ⟨by rfl, ?_⟩) (by assumption) ?_
  rotate_left
  · intro wx hSw;  go_simp <;> with_reducible rfl
  (try simp only [List.getElem_toArray]); (try simp only [List.getElem_cons_succ]); (try simp only [List.getElem_cons_zero]); (try simp only [Act.put]); (try simp only [List.setIfInBounds_toArray]); (repeat first | simp only [List.set_cons_succ] | simp only [List.set_cons_zero])
  refine wpAnyH_take (i := 1) (v := ?_) rfl (by kernel_rfl) (by kernel_rfl) (by kernel_rfl) (fun _ _ _ h => h) (Or.inl ⟨by rfl, ?_⟩) (by assumption) ?_
  rotate_left
  · intro wx hSw;  go_simp <;> with_reducible rfl
  (try simp only [List.getElem_toArray]); (try simp only [List.getElem_cons_succ]); (try simp only [List.getElem_cons_zero]); (try simp only [Act.put]); (try simp only [List.setIfInBounds_toArray]); (repeat first | simp only [List.set_cons_succ] | simp only [List.set_cons_zero])
  refine wpAnyH_take (i := 2) (v := ?_) rfl (by kernel_rfl) (by kernel_rfl) (by kernel_rfl) (fun _ _ _ h => h) (Or.inl ⟨by rfl, ?_⟩) (by assumption) ?_
  rotate_left
  · intro wx hSw;  go_simp <;> with_reducible rfl
  (try simp only [List.getElem_toArray]); (try simp only [List.getElem_cons_succ]); (try simp only [List.getElem_cons_zero]); (try simp only [Act.put]); (try simp only [List.setIfInBounds_toArray]); (repeat first | simp only [List.set_cons_succ] | simp only [List.set_cons_zero])
  refine wpAnyH_take (i := 3) (v := ?_) rfl (by kernel_rfl) (by kernel_rfl) (by kernel_rfl) (fun _ _ _ h => h) (Or.inl ⟨by rfl, ?_⟩) (by assumption) ?_
  rotate_left
  · intro wx hSw;  go_simp <;> with_reducible rfl
  (try simp only [List.getElem_toArray]); (try simp only [List.getElem_cons_succ]); (try simp only [List.getElem_cons_zero]); (try simp only [Act.put]); (try simp only [List.setIfInBounds_toArray]); (repeat first | simp only [List.set_cons_succ] | simp only [List.set_cons_zero])
  refine wpAnyH_take (i := 5) (v := .agg #[.int .i64 cd, .int .i64 dst, .bool oR, .int .i64 oN, .bool xR, .int .i64 xN, .bool yR, .int .i64 yN, .int .i64 op, .int .i64 rel, .int .i64 to]) rfl (by kernel_rfl) (by kernel_rfl) (by kernel_rfl) (fun _ _ _ h => h) (Or.inl ⟨by rfl, ?_⟩) (by assumption) ?_
  · intro wx hSw
    exact takes_load' 59 _ rfl ⟨ib, 0, none⟩ rfl (run_loadVar_mid wx ib 0 59 (Ins.cells ⟨cd, dst, oR, oN, xR, xN, yR, yN, op, rel, to⟩) _ (fun j v e => by have := (hU.keep (by show 0 < 11; decide) hSw (fun e => e.elim hib.2.2 hib.1)).c j v e; rwa [Nat.zero_add]) Tryz.underlying59 rfl (by rw [iRn]; rfl))
  (try simp only [List.getElem_toArray]); (try simp only [List.getElem_cons_succ]); (try simp only [List.getElem_cons_zero]); (try simp only [Act.put]); (try simp only [List.setIfInBounds_toArray]); (repeat first | simp only [List.set_cons_succ] | simp only [List.set_cons_zero])
  refine wpAnyH_two' 4 6 (by kernel_rfl) rfl rfl (by kernel_rfl) (by kernel_rfl) ?_ ?_
  · go_simp
    (try simp only [List.getElem_toArray]); (try simp only [List.getElem_cons_succ]); (try simp only [List.getElem_cons_zero]); (try simp only [Act.put]); (try simp only [List.setIfInBounds_toArray]); (repeat first | simp only [List.set_cons_succ] | simp only [List.set_cons_zero])
    refine wpAnyH_one 6 (by kernel_rfl) rfl rfl ?_
    go_simp
    refine ⟨hHeld.alloc _, fun hS2' => ?_⟩
    (try simp only [List.getElem_toArray]); (try simp only [List.getElem_cons_succ]); (try simp only [List.getElem_cons_zero]); (try simp only [Act.put]); (try simp only [List.setIfInBounds_toArray]); (repeat first | simp only [List.set_cons_succ] | simp only [List.set_cons_zero])
    refine wpAnyH_one 7 (by kernel_rfl) rfl rfl ?_
    refine wp_append_run _ _ 28 rfl _ _ _ _ rfl rfl hr' ?_
    refine ⟨KK.mono (fun _ _ e => .inl e), fun hS3 => ?_⟩
    (try simp only [List.getElem_toArray]); (try simp only [List.getElem_cons_succ]); (try simp only [List.getElem_cons_zero]); (try simp only [Act.put]); (try simp only [List.setIfInBounds_toArray]); (repeat first | simp only [List.set_cons_succ] | simp only [List.set_cons_zero])
    have z0 := CR'.z 0 (by show 0 < 4; decide)
    have x0' := CR'.c 0 _ rfl
    refine wpAnyH_take (i := 8) (v := ?_) rfl (by kernel_rfl) (by kernel_rfl) (by kernel_rfl) (fun _ _ _ h => h) (Or.inl ⟨by rfl, ?_⟩) (by assumption) ?_
    rotate_left
    · intro wx hSw;  go_simp <;> with_reducible rfl
    (try simp only [List.getElem_toArray]); (try simp only [List.getElem_cons_succ]); (try simp only [List.getElem_cons_zero]); (try simp only [Act.put]); (try simp only [List.setIfInBounds_toArray]); (repeat first | simp only [List.set_cons_succ] | simp only [List.set_cons_zero])
    refine wpAnyH_take (i := 9) (v := ?_) rfl (by kernel_rfl) (by kernel_rfl) (by kernel_rfl) (fun _ _ _ h => h) (Or.inl ⟨by rfl, ?_⟩) (by assumption) ?_
    rotate_left
    · intro wx hSw;  go_simp <;> with_reducible rfl
    (try simp only [List.getElem_toArray]); (try simp only [List.getElem_cons_succ]); (try simp only [List.getElem_cons_zero]); (try simp only [Act.put]); (try simp only [List.setIfInBounds_toArray]); (repeat first | simp only [List.set_cons_succ] | simp only [List.set_cons_zero])
    refine wpAnyH_one 10 (by kernel_rfl) rfl rfl ?_
    go_simp
    refine ⟨hS3.setCell (fun _ => .inr rfl) _, fun hS4 => ?_⟩
    (try simp only [List.getElem_toArray]); (try simp only [List.getElem_cons_succ]); (try simp only [List.getElem_cons_zero]); (try simp only [Act.put]); (try simp only [List.setIfInBounds_toArray]); (repeat first | simp only [List.set_cons_succ] | simp only [List.set_cons_zero])
    refine wpAnyH_done (by kernel_rfl) ?_ _
    go_wp2_with (refine wpList_store_cl rfl 30 _ _ rfl rb 0 3 _ rfl rfl rfl hf9 (by show 3 ≤ 3; decide) iFr (all_oneCell_toArray (by simp [Value.oneCell'])) ?_; intro w5 hc5 k5 hsz5; clear hsz5; have y0 := hc5.c 0 _ rfl; have y1 := hc5.c 1 _ rfl; have y2 := hc5.c 2 _ rfl)
    (try simp only [Exit.inBlock, Exit.then])
    have hRn : Value.ownBlock (.slice a' (qs.length + 1) cap') ≠ some R := fun e => by
      rcases hbl with h | h
      · exact dC (h.symm.trans e)
      · have h2 : some (w.heap.size + 1) = some R := h.symm.trans e
        have h3 := hI.lt
        injection h2 with h2
        omega
    have fr : ∀ (v : Value), (∀ g, v.ownBlock = some g → g < w.heap.size) → (∀ g, Value.ownBlock (.slice ac qs.length capc) = some g → v.ownBlock ≠ some g) → ∀ g, Value.ownBlock (.slice a' (qs.length + 1) cap') = some g → v.ownBlock ≠ some g := fun v h1 h2 g hg e => by
      rcases hbl with h | h
      · exact h2 g (h.symm.trans hg) e
      · have h3 : some (w.heap.size + 1) = some g := h.symm.trans hg
        have h4 := h1 g e
        injection h3 with h3
        omega
    have hrb : Value.ownBlock (.slice a' (qs.length + 1) cap') ≠ some rb := fun e => by
      rcases hbl with h | h
      · exact hdg.2 (h.symm.trans e)
      · have h2 : some (w.heap.size + 1) = some rb := h.symm.trans e
        have h3 := hf.lt (by show 0 < 3; decide)
        injection h2 with h2
        omega
    have kT : Keeps (fun k => k = R ∨ k = rb) w' w5 := (kS.mono (fun _ _ e => .inl e)).trans (k5.mono (fun _ _ e => .inr e))
    refine bodyPost_ret (v := .agg #[.int .i64 0, .int .i64 0, .int .i64 0]) (by rw [results_cell1 rfl]; go_simp) rfl (HP.out _ (.slice a' (qs.length + 1) cap') ⟨?_, ?_, ?_, ?_, ?_, hI.b, ?_, ?_, hI.d2, hI.d3⟩ ?_)
    · exact (CR'.set (o := 0) (by show 0 < 4; decide) _).keep (by show 0 < 4; decide) k5 (fun e => hrR e.symm)
    · rw [List.length_append]
      exact kT.owns ho (fun g hg e => e.elim (fun e => hRn (e ▸ hg)) (fun e => hrb (e ▸ hg)))
    · exact kT.owns (KK.owns hI.n (fun g hg e => (hI.d1 g e).1 hg)) (fun g hg e => e.elim (fun e => hI.dR nv (by simp) (e ▸ hg)) (fun e => (HDG.out nv (by simp)) (e ▸ hg)))
    · exact kT.owns (KK.owns hI.p (fun g hg e => (hI.d1 g e).2.1 hg)) (fun g hg e => e.elim (fun e => hI.dR wv (by simp) (e ▸ hg)) (fun e => (HDG.out wv (by simp)) (e ▸ hg)))
    · exact kT.owns (KK.owns hI.u (fun g hg e => (hI.d1 g e).2.2 hg)) (fun g hg e => e.elim (fun e => hI.dR uv (by simp) (e ▸ hg)) (fun e => (HDG.out uv (by simp)) (e ▸ hg)))
    · intro v hv
      simp only [List.mem_cons, List.mem_nil_iff, or_false] at hv
      rcases hv with rfl | rfl | rfl | rfl
      · exact hRn
      · exact hI.dR _ (by simp)
      · exact hI.dR _ (by simp)
      · exact hI.dR _ (by simp)
    · exact fun g hg => ⟨fr nv (fun g h => owns_lt' hI.n g h) (fun g h => (hI.d1 g h).1) g hg, fr wv (fun g h => owns_lt' hI.p g h) (fun g h => (hI.d1 g h).2.1) g hg, fr uv (fun g h => owns_lt' hI.u g h) (fun g h => (hI.d1 g h).2.2) g hg⟩
    · exact (HK.trans' hS4 (fun _ _ e => e) (fun i hi e => e.elim (fun e => .inl (owns_base hI.o i e)) (fun e => .inr e))).trans' k5 (fun _ _ e => e) (fun i hi e => by have e : i = rb := e; omega)
  · go_simp
    refine ⟨hHeld.alloc _, fun hS1 => ?_⟩
    (try simp only [List.getElem_toArray]); (try simp only [List.getElem_cons_succ]); (try simp only [List.getElem_cons_zero]); (try simp only [Act.put]); (try simp only [List.setIfInBounds_toArray]); (repeat first | simp only [List.set_cons_succ] | simp only [List.set_cons_zero])
    have r0a := ((Keeps.refl (fun _ => False) w).alloc (.cells #[.int .i64 cd, .int .i64 dst, .bool oR, .int .i64 oN, .bool xR, .int .i64 xN, .bool yR, .int .i64 yN, .int .i64 op, .int .i64 rel, .int .i64 to] 59)).cell r0 (fun e => e)
    refine wpAnyH_one 4 (by kernel_rfl) rfl rfl ?_
    go_simp
    (try simp only [List.getElem_toArray]); (try simp only [List.getElem_cons_succ]); (try simp only [List.getElem_cons_zero]); (try simp only [Act.put]); (try simp only [List.setIfInBounds_toArray]); (repeat first | simp only [List.set_cons_succ] | simp only [List.set_cons_zero])
    refine wpAnyH_one 7 (by kernel_rfl) rfl rfl ?_
    refine wp_append_run _ _ 28 rfl _ _ _ _ rfl rfl hr' ?_
    refine ⟨KK.mono (fun _ _ e => .inl e), fun hS3 => ?_⟩
    (try simp only [List.getElem_toArray]); (try simp only [List.getElem_cons_succ]); (try simp only [List.getElem_cons_zero]); (try simp only [Act.put]); (try simp only [List.setIfInBounds_toArray]); (repeat first | simp only [List.set_cons_succ] | simp only [List.set_cons_zero])
    have z0 := CR'.z 0 (by show 0 < 4; decide)
    have x0' := CR'.c 0 _ rfl
    refine wpAnyH_take (i := 8) (v := ?_) rfl (by kernel_rfl) (by kernel_rfl) (by kernel_rfl) (fun _ _ _ h => h) (Or.inl ⟨by rfl, ?_⟩) (by assumption) ?_
    rotate_left
    · intro wx hSw;  go_simp <;> with_reducible rfl
    (try simp only [List.getElem_toArray]); (try simp only [List.getElem_cons_succ]); (try simp only [List.getElem_cons_zero]); (try simp only [Act.put]); (try simp only [List.setIfInBounds_toArray]); (repeat first | simp only [List.set_cons_succ] | simp only [List.set_cons_zero])
    refine wpAnyH_take (i := 9) (v := ?_) rfl (by kernel_rfl) (by kernel_rfl) (by kernel_rfl) (fun _ _ _ h => h) (Or.inl ⟨by rfl, ?_⟩) (by assumption) ?_
    rotate_left
    · intro wx hSw;  go_simp <;> with_reducible rfl
    (try simp only [List.getElem_toArray]); (try simp only [List.getElem_cons_succ]); (try simp only [List.getElem_cons_zero]); (try simp only [Act.put]); (try simp only [List.setIfInBounds_toArray]); (repeat first | simp only [List.set_cons_succ] | simp only [List.set_cons_zero])
    refine wpAnyH_one 10 (by kernel_rfl) rfl rfl ?_
    go_simp
    refine ⟨hS3.setCell (fun _ => .inr rfl) _, fun hS4 => ?_⟩
    (try simp only [List.getElem_toArray]); (try simp only [List.getElem_cons_succ]); (try simp only [List.getElem_cons_zero]); (try simp only [Act.put]); (try simp only [List.setIfInBounds_toArray]); (repeat first | simp only [List.set_cons_succ] | simp only [List.set_cons_zero])
    refine wpAnyH_done (by kernel_rfl) ?_ _
    go_wp2_with (refine wpList_store_cl rfl 30 _ _ rfl rb 0 3 _ rfl rfl rfl hf9 (by show 3 ≤ 3; decide) iFr (all_oneCell_toArray (by simp [Value.oneCell'])) ?_; intro w5 hc5 k5 hsz5; clear hsz5; have y0 := hc5.c 0 _ rfl; have y1 := hc5.c 1 _ rfl; have y2 := hc5.c 2 _ rfl)
    (try simp only [Exit.inBlock, Exit.then])
    have hRn : Value.ownBlock (.slice a' (qs.length + 1) cap') ≠ some R := fun e => by
      rcases hbl with h | h
      · exact dC (h.symm.trans e)
      · have h2 : some (w.heap.size + 1) = some R := h.symm.trans e
        have h3 := hI.lt
        injection h2 with h2
        omega
    have fr : ∀ (v : Value), (∀ g, v.ownBlock = some g → g < w.heap.size) → (∀ g, Value.ownBlock (.slice ac qs.length capc) = some g → v.ownBlock ≠ some g) → ∀ g, Value.ownBlock (.slice a' (qs.length + 1) cap') = some g → v.ownBlock ≠ some g := fun v h1 h2 g hg e => by
      rcases hbl with h | h
      · exact h2 g (h.symm.trans hg) e
      · have h3 : some (w.heap.size + 1) = some g := h.symm.trans hg
        have h4 := h1 g e
        injection h3 with h3
        omega
    have hrb : Value.ownBlock (.slice a' (qs.length + 1) cap') ≠ some rb := fun e => by
      rcases hbl with h | h
      · exact hdg.2 (h.symm.trans e)
      · have h2 : some (w.heap.size + 1) = some rb := h.symm.trans e
        have h3 := hf.lt (by show 0 < 3; decide)
        injection h2 with h2
        omega
    have kT : Keeps (fun k => k = R ∨ k = rb) w' w5 := (kS.mono (fun _ _ e => .inl e)).trans (k5.mono (fun _ _ e => .inr e))
    refine bodyPost_ret (v := .agg #[.int .i64 0, .int .i64 0, .int .i64 0]) (by rw [results_cell1 rfl]; go_simp) rfl (HP.out _ (.slice a' (qs.length + 1) cap') ⟨?_, ?_, ?_, ?_, ?_, hI.b, ?_, ?_, hI.d2, hI.d3⟩ ?_)
    · exact (CR'.set (o := 0) (by show 0 < 4; decide) _).keep (by show 0 < 4; decide) k5 (fun e => hrR e.symm)
    · rw [List.length_append]
      exact kT.owns ho (fun g hg e => e.elim (fun e => hRn (e ▸ hg)) (fun e => hrb (e ▸ hg)))
    · exact kT.owns (KK.owns hI.n (fun g hg e => (hI.d1 g e).1 hg)) (fun g hg e => e.elim (fun e => hI.dR nv (by simp) (e ▸ hg)) (fun e => (HDG.out nv (by simp)) (e ▸ hg)))
    · exact kT.owns (KK.owns hI.p (fun g hg e => (hI.d1 g e).2.1 hg)) (fun g hg e => e.elim (fun e => hI.dR wv (by simp) (e ▸ hg)) (fun e => (HDG.out wv (by simp)) (e ▸ hg)))
    · exact kT.owns (KK.owns hI.u (fun g hg e => (hI.d1 g e).2.2 hg)) (fun g hg e => e.elim (fun e => hI.dR uv (by simp) (e ▸ hg)) (fun e => (HDG.out uv (by simp)) (e ▸ hg)))
    · intro v hv
      simp only [List.mem_cons, List.mem_nil_iff, or_false] at hv
      rcases hv with rfl | rfl | rfl | rfl
      · exact hRn
      · exact hI.dR _ (by simp)
      · exact hI.dR _ (by simp)
      · exact hI.dR _ (by simp)
    · exact fun g hg => ⟨fr nv (fun g h => owns_lt' hI.n g h) (fun g h => (hI.d1 g h).1) g hg, fr wv (fun g h => owns_lt' hI.p g h) (fun g h => (hI.d1 g h).2.1) g hg, fr uv (fun g h => owns_lt' hI.u g h) (fun g h => (hI.d1 g h).2.2) g hg⟩
    · exact (HK.trans' hS4 (fun _ _ e => e) (fun i hi e => e.elim (fun e => .inl (owns_base hI.o i e)) (fun e => .inr e))).trans' k5 (fun _ _ e => e) (fun i hi e => by have e : i = rb := e; omega)
end Go.Proofs.YtchbhmolnoggfaaGreatDoor

