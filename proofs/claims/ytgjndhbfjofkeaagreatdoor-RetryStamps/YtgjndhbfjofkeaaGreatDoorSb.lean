import Derived.Test.YtgjndhbfjofkeaaGreatDoorG34
import Derived.Test.YtgjndhbfjofkeaaGreatDoorSa
namespace Go.Proofs.YtgjndhbfjofkeaaGreatDoor
open Go.RowKit Go.Maps Go.ChangeMaps Go.MapKept Go.WideShapes
attribute [local go_sem] Oper.semAt_some run_store_nf run_store_f
def stampsBody (f : Func) : Code := match f.body with
  | some (.seq _ (.seq _ (.seq _ (.seq _ (.seq _ (.seq _ (.seq _ (.seq (.seq _ (.block _ (.loop (.seq _ (.seq (.block _ t) _))))) _)))))))) => t
  | _ => .skip
def stampsTail (f : Func) : Code := match stampsBody f with
  | .seq _ (.seq _ (.seq _ (.seq _ (.seq _ (.seq _ (.seq _ t)))))) => t
  | _ => .skip
def stampsBeg (f : Func) : Code := match stampsBody f with
  | .seq _ (.seq _ (.seq _ (.seq _ (.seq _ (.seq _ (.seq (.seq _ (.cond _ t _)) _)))))) => t
  | _ => .skip
section
variable {w Wg : World} {fb sB pB rB nd kd n t i : Nat} {B : Bk} {xs : Nat → Int} {p : Int} {ρ lb : Nat → Nat} {P P0 : Nat → Pt} {s : Ws} {m : Mm}
theorem stv_some {p : Pt} (h : p.T.a ≠ none) : p.stv = p.T.st ∧ p.prv = p.T.pr := by unfold Pt.stv Pt.prv; rw [if_neg h, if_neg h]; exact ⟨rfl, rfl⟩
set_option maxHeartbeats 500000 in
set_option maxRecDepth 1000000 in
theorem stamps_tail {Q : Exit → Act → World → Prop} {x0 x1 x2 x3 x4 x6 x7 x8 x11 x12 x13 x14 x15 x18 x19 x20 x21 x22 x23 x24 x25 x26 x27 x28 x29 x30 x31 x32 x33 x34 x35 x36 x37 x38 x39 x40 x41 x42 x43 x44 x45 x46 x47 x48 x49 x50 x51 x52 x53 x54 x55 x56 x57 x58 x59 x60 x61 x62 x63 x64 x65 x66 x67 x68 x69 x70 x71 x72 x73 x74 x75 x76 x77 x78 x79 x80 x81 x82 x83 x84 x85 x86 x87 x88 x89 x90 x91 x92 x93 x94 x95 x96 x97 x98 x99 x100 x101 x102 x103 x104 x105 x106 x107 x108 x109 x110 x111 x112 x113 x114 x115 x116 x117 x118 x119 x120 x121 x122 x123 x124 x125 x126 x127 x128 x129 x130 x131 x132 x133 x134 x135 x136 x137 x138 x139 x140 x141 x142 x143 x144 x145 x146 x147 x148 x149 x150 x151 x152 x153 x154 x155 x156 x157 x158 x159 x160 x161 x162 x163 x164 x165 x166 x167 x168 x169 x170 x171 x172 x173 x174 x175 x176 x177 x178 x179 x180 x181 x182 x183 : Value} (hi4 : i < 4) (hP6 : PI w fb B nd xs kd p n t ρ lb P s m Wg) (hS6 : CL Wg sB (st4 P)) (hQ6 : CL Wg pB (pr4 P)) (ha : (P i).T.a ≠ none)
    (hQ : Hid (∀ {y20 y21 y111 y112 y113 y114 y115 y116 y117 y118 y119 y120 y121 y122 y123 y124 y125 y126 y127 y128 y129 y130 y131 y132 y133 y134 y135 y136 y137 y138 y139 y140 y141 y142 y143 y144 y145 y146 y147 y148 y149 y150 y151 y152 y153 y154 y155 y156 y157 y158 y159 y160 : Value} {W7 : World}, PI w fb B nd xs kd p n t ρ lb P s m W7 → CL W7 sB (st4 P) → CL W7 pB (pr4 P) → Q .normal { tmps := #[x0, x1, x2, x3, x4, .pointer (some ⟨fb, 0, none⟩), x6, x7, x8, .pointer (some ⟨sB, 0, none⟩), .pointer (some ⟨pB, 0, none⟩), x11, x12, x13, x14, x15, .int .i64 (i : Int), .pointer (some ⟨B.tb i, 0, none⟩), x18, x19, y20, y21, x22, x23, x24, x25, x26, x27, x28, x29, x30, x31, x32, x33, x34, x35, x36, x37, x38, x39, x40, x41, x42, x43, x44, x45, x46, x47, x48, x49, x50, x51, x52, x53, x54, x55, x56, x57, x58, x59, x60, x61, x62, x63, x64, x65, x66, x67, x68, x69, x70, x71, x72, x73, x74, x75, x76, x77, x78, x79, x80, x81, x82, x83, x84, x85, x86, x87, x88, x89, x90, x91, x92, x93, x94, x95, x96, x97, x98, x99, x100, x101, x102, x103, x104, x105, x106, x107, x108, x109, x110, y111, y112, y113, y114, y115, y116, y117, y118, y119, y120, y121, y122, y123, y124, y125, y126, y127, y128, y129, y130, y131, y132, y133, y134, y135, y136, y137, y138, y139, y140, y141, y142, y143, y144, y145, y146, y147, y148, y149, y150, y151, y152, y153, y154, y155, y156, y157, y158, y159, y160, x161, x162, x163, x164, x165, x166, x167, x168, x169, x170, x171, x172, x173, x174, x175, x176, x177, x178, x179, x180, x181, x182, x183], defers := [] } W7)) :
    (stampsTail Tryz.f3).wp Tryz.prog Q { tmps := #[x0, x1, x2, x3, x4, .pointer (some ⟨fb, 0, none⟩), x6, x7, x8, .pointer (some ⟨sB, 0, none⟩), .pointer (some ⟨pB, 0, none⟩), x11, x12, x13, x14, x15, .int .i64 (i : Int), .pointer (some ⟨B.tb i, 0, none⟩), x18, x19, x20, x21, x22, x23, x24, x25, x26, x27, x28, x29, x30, x31, x32, x33, x34, x35, x36, x37, x38, x39, x40, x41, x42, x43, x44, x45, x46, x47, x48, x49, x50, x51, x52, x53, x54, x55, x56, x57, x58, x59, x60, x61, x62, x63, x64, x65, x66, x67, x68, x69, x70, x71, x72, x73, x74, x75, x76, x77, x78, x79, x80, x81, x82, x83, x84, x85, x86, x87, x88, x89, x90, x91, x92, x93, x94, x95, x96, x97, x98, x99, x100, x101, x102, x103, x104, x105, x106, x107, x108, x109, x110, x111, x112, x113, x114, x115, x116, x117, x118, x119, x120, x121, x122, x123, x124, x125, x126, x127, x128, x129, x130, x131, x132, x133, x134, x135, x136, x137, x138, x139, x140, x141, x142, x143, x144, x145, x146, x147, x148, x149, x150, x151, x152, x153, x154, x155, x156, x157, x158, x159, x160, x161, x162, x163, x164, x165, x166, x167, x168, x169, x170, x171, x172, x173, x174, x175, x176, x177, x178, x179, x180, x181, x182, x183], defers := [] } Wg := by
  have hi4I : (i : Int) < 4 := by omega
  obtain ⟨kr6, F6⟩ := hP6.fm
  have hq6 := hP6.fq.pt i hi4
  have tc := (F6.tc i hi4).1
  have ax6 := F6.ax i
  obtain ⟨ab, hab⟩ : ∃ ab, (P i).T.a = some ab := by
    cases e : (P i).T.a with
    | none => exact absurd e ha
    | some ab => exact ⟨ab, rfl⟩
  have A6 := ax6 ab hi4 hab
  have pa := hq6.so ab hab
  have gc6 := pa.gx.gc
  have e1 : (P i).x.thread = (i : Int) := pa.th.trans hq6.th
  have hOwn : ∀ W, Keeps (fun _ => False) Wg W → Calls Tryz.prog 11 #[.pointer (some ⟨B.wb, 0, none⟩), .int .i64 ((P i).x.no : Int)] W fun e w' => e = .returned (.tuple #[.agg #[.int .i64 (i : Int), .int .i64 (P i).T.st, .int .i64 (P i).T.pr], .int .i64 0]) ∧ Keeps (fun _ => False) W w' := fun W K => by
    have h := owner_ok (F6.st.new K).1 gc6.no
    rw [gc6.at_.1, gc6.at_.2.1, gc6.at_.2.2, e1, pa.st, pa.pr] at h
    exact h
  have hNu2 : ∀ W, Keeps (fun _ => False) Wg W → Calls Tryz.prog 13 #[.pointer (some ⟨B.tb i, 0, none⟩)] W fun e w' => e = .returned (.int .i64 ((P i).x.no : Int)) ∧ w' = W := fun W K => t_number (tc.keep (by show 0 < 13; decide) K (fun e => e)) hab (A6.ax.cl.keep (by show 0 < 36; decide) K (fun e => e))
  have hNu := hNu2 Wg (Keeps.refl _ Wg)
  have hne : (((P i).x.no : Int) == -1) = false := by simp
  obtain ⟨st6, D6, _⟩ := hP6.fd
  have kD : Keeps (fun _ => False) Wg Wg.drew := (Keeps.refl _ Wg).drew
  have f0 : Wg.cell? ⟨fb, 1, none⟩ = some (.pointer (some ⟨B.wb, 0, none⟩)) := D6.cl.c 1 _ rfl
  have f1 : Wg.drew.cell? ⟨fb, 1, none⟩ = some (.pointer (some ⟨B.wb, 0, none⟩)) := f0
  have sp := stv_some ha
  obtain ⟨sv, hsv⟩ : ∃ sv, Hid ((P i).T.st = sv) := ⟨_, rfl⟩
  obtain ⟨pv, hpv⟩ : ∃ pv, Hid ((P i).T.pr = pv) := ⟨_, rfl⟩
  rw [hsv.out, hpv.out] at hOwn sp
  refine wp_then ?_
  dsimp only [stampsTail, stampsBody, Tryz.f3]
  clear tc ax6 A6 gc6 e1 F6
  go_wp2_with (go_at_call 13; refine hNu.mono ?_; clear hNu; rintro e Wx ⟨rfl, hx_⟩; subst Wx)
  rename_i K hK
  have rest : ∀ {z111 z112 z113 z114 z115 z116 z117 z118 z119 z120 z121 z122 z123 z124 z125 z126 z127 z128 z129 z130 z131 z132 z133 z134 z135 z136 z137 : Value} {ob : Nat} {W8 : World}, CL W8 ob [.int .i64 (i : Int), .int .i64 sv, .int .i64 pv] → PI w fb B nd xs kd p n t ρ lb P s m W8 → CL W8 sB (st4 P) → CL W8 pB (pr4 P) → K { tmps := #[x0, x1, x2, x3, x4, .pointer (some ⟨fb, 0, none⟩), x6, x7, x8, .pointer (some ⟨sB, 0, none⟩), .pointer (some ⟨pB, 0, none⟩), x11, x12, x13, x14, x15, .int .i64 (i : Int), .pointer (some ⟨B.tb i, 0, none⟩), x18, x19, .pointer (some ⟨ob, 0, none⟩), .int .i64 0, x22, x23, x24, x25, x26, x27, x28, x29, x30, x31, x32, x33, x34, x35, x36, x37, x38, x39, x40, x41, x42, x43, x44, x45, x46, x47, x48, x49, x50, x51, x52, x53, x54, x55, x56, x57, x58, x59, x60, x61, x62, x63, x64, x65, x66, x67, x68, x69, x70, x71, x72, x73, x74, x75, x76, x77, x78, x79, x80, x81, x82, x83, x84, x85, x86, x87, x88, x89, x90, x91, x92, x93, x94, x95, x96, x97, x98, x99, x100, x101, x102, x103, x104, x105, x106, x107, x108, x109, x110, z111, z112, z113, z114, z115, z116, z117, z118, z119, z120, z121, z122, z123, z124, z125, z126, z127, z128, z129, z130, z131, z132, z133, z134, z135, z136, z137, x138, x139, x140, x141, x142, x143, x144, x145, x146, x147, x148, x149, x150, x151, x152, x153, x154, x155, x156, x157, x158, x159, x160, x161, x162, x163, x164, x165, x166, x167, x168, x169, x170, x171, x172, x173, x174, x175, x176, x177, x178, x179, x180, x181, x182, x183], defers := [] } W8 := by
    intro z111 z112 z113 z114 z115 z116 z117 z118 z119 z120 z121 z122 z123 z124 z125 z126 z127 z128 z129 z130 z131 z132 z133 z134 z135 z136 z137 ob W8 hB8 hP8 hS8 hQ8
    refine hK _ _ ?_
    clear hK
    have hP9 := hP8.new (Keeps.refl _ W8).drew
    have hS9 := hS8.drew
    have hQ9 := hQ8.drew
    obtain ⟨kr9, F9⟩ := hP9.fm
    have hSt := t_stamp (F9.tc i hi4).1
    rw [hsv.out] at hSt
    have o0 := hB8.drew.c 0 _ rfl
    have o1 := hB8.drew.c 1 _ rfl
    have o2 := hB8.drew.c 2 _ rfl
    have s9 := hS9.c _ _ (st4_get hi4)
    have q9 := hQ9.c _ _ (pr4_get hi4)
    rw [sp.1] at s9
    rw [sp.2] at q9
    clear F9 hP8 hS8 hQ8 hB8 hP6 hS6 hQ6 hq6 pa hNu2 hOwn
    go_wp2_with fail
    refine wp_region_held_drew (S := fun w' => w'.cell? ⟨ob, 0, none⟩ = some (.int .i64 (i : Int)) ∧ w'.cell? ⟨ob, 1, none⟩ = some (.int .i64 sv) ∧ w'.cell? ⟨ob, 2, none⟩ = some (.int .i64 pv) ∧ w'.cell? ⟨sB, i, none⟩ = some (.int .i64 sv) ∧ w'.cell? ⟨pB, i, none⟩ = some (.int .i64 pv)) (by kernel_rfl) ⟨o0, o1, o2, s9, q9⟩ (fun hHeld => ?_)
    refine wpAnyH_take (i := 0) (v := ?_) rfl (by kernel_rfl) (by kernel_rfl) (by kernel_rfl) (fun _ _ _ h => h) (Or.inl ⟨by rfl, ?_⟩) (by assumption) ?_
    rotate_left
    · intro wx hSw; (try dsimp only at hSw); go_simp <;> with_reducible rfl
    (try simp only [List.getElem_toArray]); (try simp only [List.getElem_cons_succ]); (try simp only [List.getElem_cons_zero]); (try simp only [Act.put]); (try simp only [List.setIfInBounds_toArray]); (repeat first | simp only [List.set_cons_succ] | simp only [List.set_cons_zero])
    refine wpAnyH_oneW 1 (by kernel_rfl) rfl (by rfl) ?_
    go_simp
    refine (num_r _ _).mono ?_
    rintro e Wx ⟨rfl, hx_⟩
    subst hx_
    refine ⟨hHeld, fun _ _ _ _ _ => ?_⟩
    (try simp only [List.getElem_toArray]); (try simp only [List.getElem_cons_succ]); (try simp only [List.getElem_cons_zero]); (try simp only [Act.put]); (try simp only [List.setIfInBounds_toArray]); (repeat first | simp only [List.set_cons_succ] | simp only [List.set_cons_zero])
    refine wpAnyH_take (i := 2) (v := ?_) rfl (by kernel_rfl) (by kernel_rfl) (by kernel_rfl) (fun _ _ _ h => h) (Or.inl ⟨by rfl, ?_⟩) (by assumption) ?_
    rotate_left
    · intro wx hSw; (try dsimp only at hSw); go_simp <;> with_reducible rfl
    (try simp only [List.getElem_toArray]); (try simp only [List.getElem_cons_succ]); (try simp only [List.getElem_cons_zero]); (try simp only [Act.put]); (try simp only [List.setIfInBounds_toArray]); (repeat first | simp only [List.set_cons_succ] | simp only [List.set_cons_zero])
    refine wpAnyH_take (i := 3) (v := ?_) rfl (by kernel_rfl) (by kernel_rfl) (by kernel_rfl) (fun _ _ _ h => h) (Or.inl ⟨by rfl, ?_⟩) (by assumption) ?_
    rotate_left
    · intro wx hSw; (try dsimp only at hSw); go_simp <;> with_reducible rfl
    (try simp only [List.getElem_toArray]); (try simp only [List.getElem_cons_succ]); (try simp only [List.getElem_cons_zero]); (try simp only [Act.put]); (try simp only [List.setIfInBounds_toArray]); (repeat first | simp only [List.set_cons_succ] | simp only [List.set_cons_zero])
    refine wpAnyH_take (i := 4) (v := ?_) rfl (by kernel_rfl) (by kernel_rfl) (by kernel_rfl) (fun _ _ _ h => h) (Or.inl ⟨by rfl, ?_⟩) (by assumption) ?_
    rotate_left
    · intro wx hSw; (try dsimp only at hSw); go_simp <;> with_reducible rfl
    (try simp only [List.getElem_toArray]); (try simp only [List.getElem_cons_succ]); (try simp only [List.getElem_cons_zero]); (try simp only [Act.put]); (try simp only [List.setIfInBounds_toArray]); (repeat first | simp only [List.set_cons_succ] | simp only [List.set_cons_zero])
    refine wpAnyH_take (i := 5) (v := ?_) rfl (by kernel_rfl) (by kernel_rfl) (by kernel_rfl) (fun _ _ _ h => h) (Or.inl ⟨by rfl, ?_⟩) (by assumption) ?_
    rotate_left
    · intro wx hSw; (try dsimp only at hSw); go_simp <;> with_reducible rfl
    (try simp only [List.getElem_toArray]); (try simp only [List.getElem_cons_succ]); (try simp only [List.getElem_cons_zero]); (try simp only [Act.put]); (try simp only [List.setIfInBounds_toArray]); (repeat first | simp only [List.set_cons_succ] | simp only [List.set_cons_zero])
    refine wpAnyH_take (i := 6) (v := ?_) rfl (by kernel_rfl) (by kernel_rfl) (by kernel_rfl) (fun _ _ _ h => h) (Or.inl ⟨by rfl, ?_⟩) (by assumption) ?_
    rotate_left
    · intro wx hSw; (try dsimp only at hSw); go_simp <;> with_reducible rfl
    (try simp only [List.getElem_toArray]); (try simp only [List.getElem_cons_succ]); (try simp only [List.getElem_cons_zero]); (try simp only [Act.put]); (try simp only [List.setIfInBounds_toArray]); (repeat first | simp only [List.set_cons_succ] | simp only [List.set_cons_zero])
    refine wpAnyH_take (i := 7) (v := ?_) rfl (by kernel_rfl) (by kernel_rfl) (by kernel_rfl) (fun _ _ _ h => h) (Or.inl ⟨by rfl, ?_⟩) (by assumption) ?_
    rotate_left
    · intro wx hSw; (try dsimp only at hSw); go_simp <;> with_reducible rfl
    (try simp only [List.getElem_toArray]); (try simp only [List.getElem_cons_succ]); (try simp only [List.getElem_cons_zero]); (try simp only [Act.put]); (try simp only [List.setIfInBounds_toArray]); (repeat first | simp only [List.set_cons_succ] | simp only [List.set_cons_zero])
    refine wpAnyH_take (i := 8) (v := ?_) rfl (by kernel_rfl) (by kernel_rfl) (by kernel_rfl) (fun _ _ _ h => h) (Or.inl ⟨by rfl, ?_⟩) (by assumption) ?_
    rotate_left
    · intro wx hSw; (try dsimp only at hSw); go_simp <;> with_reducible rfl
    (try simp only [List.getElem_toArray]); (try simp only [List.getElem_cons_succ]); (try simp only [List.getElem_cons_zero]); (try simp only [Act.put]); (try simp only [List.setIfInBounds_toArray]); (repeat first | simp only [List.set_cons_succ] | simp only [List.set_cons_zero])
    refine wpAnyH_take (i := 9) (v := ?_) rfl (by kernel_rfl) (by kernel_rfl) (by kernel_rfl) (fun _ _ _ h => h) (Or.inl ⟨by rfl, ?_⟩) (by assumption) ?_
    rotate_left
    · intro wx hSw; (try dsimp only at hSw); go_simp <;> with_reducible rfl
    (try simp only [List.getElem_toArray]); (try simp only [List.getElem_cons_succ]); (try simp only [List.getElem_cons_zero]); (try simp only [Act.put]); (try simp only [List.setIfInBounds_toArray]); (repeat first | simp only [List.set_cons_succ] | simp only [List.set_cons_zero])
    refine wpAnyH_take (i := 10) (v := ?_) rfl (by kernel_rfl) (by kernel_rfl) (by kernel_rfl) (fun _ _ _ h => h) (Or.inl ⟨by rfl, ?_⟩) (by assumption) ?_
    rotate_left
    · intro wx hSw; (try dsimp only at hSw); go_simp <;> with_reducible rfl
    (try simp only [List.getElem_toArray]); (try simp only [List.getElem_cons_succ]); (try simp only [List.getElem_cons_zero]); (try simp only [Act.put]); (try simp only [List.setIfInBounds_toArray]); (repeat first | simp only [List.set_cons_succ] | simp only [List.set_cons_zero])
    refine wpAnyH_take (i := 11) (v := ?_) rfl (by kernel_rfl) (by kernel_rfl) (by kernel_rfl) (fun _ _ _ h => h) (Or.inl ⟨by rfl, ?_⟩) (by assumption) ?_
    rotate_left
    · intro wx hSw; (try dsimp only at hSw); go_simp <;> with_reducible rfl
    (try simp only [List.getElem_toArray]); (try simp only [List.getElem_cons_succ]); (try simp only [List.getElem_cons_zero]); (try simp only [Act.put]); (try simp only [List.setIfInBounds_toArray]); (repeat first | simp only [List.set_cons_succ] | simp only [List.set_cons_zero])
    refine wpAnyH_take (i := 12) (v := ?_) rfl (by kernel_rfl) (by kernel_rfl) (by kernel_rfl) (fun _ _ _ h => h) (Or.inl ⟨by rfl, ?_⟩) (by assumption) ?_
    rotate_left
    · intro wx hSw; (try dsimp only at hSw); go_simp <;> with_reducible rfl
    (try simp only [List.getElem_toArray]); (try simp only [List.getElem_cons_succ]); (try simp only [List.getElem_cons_zero]); (try simp only [Act.put]); (try simp only [List.setIfInBounds_toArray]); (repeat first | simp only [List.set_cons_succ] | simp only [List.set_cons_zero])
    refine wpAnyH_take (i := 13) (v := .bool false) rfl (by kernel_rfl) (by kernel_rfl) (by kernel_rfl) (fun _ _ _ h => h) (Or.inl ⟨by rfl, ?_⟩) (by assumption) ?_
    · intro wx hSw; clear hSw; go_simp
    (try simp only [List.getElem_toArray]); (try simp only [List.getElem_cons_succ]); (try simp only [List.getElem_cons_zero]); (try simp only [Act.put]); (try simp only [List.setIfInBounds_toArray]); (repeat first | simp only [List.set_cons_succ] | simp only [List.set_cons_zero])
    refine wpAnyH_take (i := 14) (v := ?_) rfl (by kernel_rfl) (by kernel_rfl) (by kernel_rfl) (fun _ _ _ h => h) (Or.inl ⟨by rfl, ?_⟩) (by assumption) ?_
    rotate_left
    · intro wx hSw; (try dsimp only at hSw); go_simp <;> with_reducible rfl
    (try simp only [List.getElem_toArray]); (try simp only [List.getElem_cons_succ]); (try simp only [List.getElem_cons_zero]); (try simp only [Act.put]); (try simp only [List.setIfInBounds_toArray]); (repeat first | simp only [List.set_cons_succ] | simp only [List.set_cons_zero])
    refine wpAnyH_take (i := 15) (v := ?_) rfl (by kernel_rfl) (by kernel_rfl) (by kernel_rfl) (fun _ _ _ h => h) (Or.inl ⟨by rfl, ?_⟩) (by assumption) ?_
    rotate_left
    · intro wx hSw; (try dsimp only at hSw); go_simp <;> with_reducible rfl
    (try simp only [List.getElem_toArray]); (try simp only [List.getElem_cons_succ]); (try simp only [List.getElem_cons_zero]); (try simp only [Act.put]); (try simp only [List.setIfInBounds_toArray]); (repeat first | simp only [List.set_cons_succ] | simp only [List.set_cons_zero])
    refine wpAnyH_take (i := 16) (v := ?_) rfl (by kernel_rfl) (by kernel_rfl) (by kernel_rfl) (fun _ _ _ h => h) (Or.inl ⟨by rfl, ?_⟩) (by assumption) ?_
    rotate_left
    · intro wx hSw; (try dsimp only at hSw); go_simp <;> with_reducible rfl
    (try simp only [List.getElem_toArray]); (try simp only [List.getElem_cons_succ]); (try simp only [List.getElem_cons_zero]); (try simp only [Act.put]); (try simp only [List.setIfInBounds_toArray]); (repeat first | simp only [List.set_cons_succ] | simp only [List.set_cons_zero])
    refine wpAnyH_take (i := 18) (v := ?_) rfl (by kernel_rfl) (by kernel_rfl) (by kernel_rfl) (fun _ _ _ h => h) (Or.inl ⟨by rfl, ?_⟩) (by assumption) ?_
    rotate_left
    · intro wx hSw; (try dsimp only at hSw); go_simp <;> with_reducible rfl
    (try simp only [List.getElem_toArray]); (try simp only [List.getElem_cons_succ]); (try simp only [List.getElem_cons_zero]); (try simp only [Act.put]); (try simp only [List.setIfInBounds_toArray]); (repeat first | simp only [List.set_cons_succ] | simp only [List.set_cons_zero])
    refine wpAnyH_take (i := 19) (v := ?_) rfl (by kernel_rfl) (by kernel_rfl) (by kernel_rfl) (fun _ _ _ h => h) (Or.inl ⟨by rfl, ?_⟩) (by assumption) ?_
    rotate_left
    · intro wx hSw; (try dsimp only at hSw); go_simp <;> with_reducible rfl
    (try simp only [List.getElem_toArray]); (try simp only [List.getElem_cons_succ]); (try simp only [List.getElem_cons_zero]); (try simp only [Act.put]); (try simp only [List.setIfInBounds_toArray]); (repeat first | simp only [List.set_cons_succ] | simp only [List.set_cons_zero])
    refine wpAnyH_take (i := 20) (v := ?_) rfl (by kernel_rfl) (by kernel_rfl) (by kernel_rfl) (fun _ _ _ h => h) (Or.inl ⟨by rfl, ?_⟩) (by assumption) ?_
    rotate_left
    · intro wx hSw; (try dsimp only at hSw); go_simp <;> with_reducible rfl
    (try simp only [List.getElem_toArray]); (try simp only [List.getElem_cons_succ]); (try simp only [List.getElem_cons_zero]); (try simp only [Act.put]); (try simp only [List.setIfInBounds_toArray]); (repeat first | simp only [List.set_cons_succ] | simp only [List.set_cons_zero])
    refine wpAnyH_oneW 17 (by kernel_rfl) rfl (by rfl) ?_
    go_simp
    refine hSt.mono ?_
    rintro e Wx ⟨rfl, hx_⟩
    subst hx_
    refine ⟨hHeld, fun _ _ _ _ _ => ?_⟩
    (try simp only [List.getElem_toArray]); (try simp only [List.getElem_cons_succ]); (try simp only [List.getElem_cons_zero]); (try simp only [Act.put]); (try simp only [List.setIfInBounds_toArray]); (repeat first | simp only [List.set_cons_succ] | simp only [List.set_cons_zero])
    refine wpAnyH_take (i := 21) (v := ?_) rfl (by kernel_rfl) (by kernel_rfl) (by kernel_rfl) (fun _ _ _ h => h) (Or.inl ⟨by rfl, ?_⟩) (by assumption) ?_
    rotate_left
    · intro wx hSw; (try dsimp only at hSw); go_simp <;> with_reducible rfl
    (try simp only [List.getElem_toArray]); (try simp only [List.getElem_cons_succ]); (try simp only [List.getElem_cons_zero]); (try simp only [Act.put]); (try simp only [List.setIfInBounds_toArray]); (repeat first | simp only [List.set_cons_succ] | simp only [List.set_cons_zero])
    refine wpAnyH_take (i := 22) (v := ?_) rfl (by kernel_rfl) (by kernel_rfl) (by kernel_rfl) (fun _ _ _ h => h) (Or.inl ⟨by rfl, ?_⟩) (by assumption) ?_
    rotate_left
    · intro wx hSw; (try dsimp only at hSw); go_simp <;> with_reducible rfl
    (try simp only [List.getElem_toArray]); (try simp only [List.getElem_cons_succ]); (try simp only [List.getElem_cons_zero]); (try simp only [Act.put]); (try simp only [List.setIfInBounds_toArray]); (repeat first | simp only [List.set_cons_succ] | simp only [List.set_cons_zero])
    refine wpAnyH_done (by kernel_rfl) ?_ _
    go_wp2_with fail
    exact hQ.out hP9 hS9 hQ9
  have restH : Hid _ := @rest
  clear rest
  clear hK
  have nn1 := World.new_ne Wg.drew ⟨fb, 1, none⟩ f1
  have nn2 : ¬ Wg.heap.size = fb := nn1
  have nn4 : ¬ fb = Wg.heap.size := fun e => nn2 e.symm
  go_region_held3 (fun w' => w'.cell? ⟨fb, 1, none⟩ = some (.pointer (some ⟨B.wb, 0, none⟩))) (go_keep) (first | (go_at_call 13; refine (hNu2 _ (by first | exact kD | exact kD.alloc _ | exact ((Keeps.refl _ Wg).alloc _).drew)).mono ?_; rintro e Wx ⟨rfl, hx_⟩; subst Wx) | (go_at_call 11; refine (hOwn _ (by first | exact kD | exact kD.alloc _ | exact ((Keeps.refl _ Wg).alloc _).drew)).mono ?_; rintro e Wo ⟨rfl, ko⟩; have g1 := ko.cell (p := ⟨fb, 1, none⟩) (by first | exact f1 | exact ((Keeps.refl (fun _ => False) Wg.drew).alloc _).cell f1 (fun e => e) | exact ((Keeps.refl (fun _ => False) Wg).alloc _).cell f0 (fun e => e)) (fun e => e); have nn3 := World.new_ne Wo ⟨fb, 1, none⟩ g1; (first | (have qB := ow_p1 ko; have b0 := qB.c 0 _ rfl; have zb0 := qB.z 0 (by show 0 < 3; decide); have b1 := qB.c 1 _ rfl; have zb1 := qB.z 1 (by show 1 < 3; decide); have b2 := qB.c 2 _ rfl; have zb2 := qB.z 2 (by show 2 < 3; decide)) | (have qB := ow_p2 ko; have b0 := qB.c 0 _ rfl; have zb0 := qB.z 0 (by show 0 < 3; decide); have b1 := qB.c 1 _ rfl; have zb1 := qB.z 1 (by show 1 < 3; decide); have b2 := qB.c 2 _ rfl; have zb2 := qB.z 2 (by show 2 < 3; decide)) | skip)))
  all_goals show K _ _
  all_goals
    first
    | exact restH.out (CL.made Wo [.int .i64 (i : Int), .int .i64 sv, .int .i64 pv] _) (hP6.new ((kD.trans ko).alloc _)) ((hS6.keep (by show 0 < 4; decide) (kD.trans ko) (fun e => e)).alloc (by show 0 < 4; decide) _) ((hQ6.keep (by show 0 < 4; decide) (kD.trans ko) (fun e => e)).alloc (by show 0 < 4; decide) _)
    | (have K7 : Keeps (fun _ => False) Wg (((Wo.setCell ⟨Wg.heap.size, 0, none⟩ (.int .i64 (i : Int))).setCell ⟨Wg.heap.size, 1, none⟩ (.int .i64 sv)).setCell ⟨Wg.heap.size, 2, none⟩ (.int .i64 pv)) := by
         have k1 : Keeps (fun _ => False) Wg Wo := by first | exact ((Keeps.refl _ Wg).alloc _).drew.trans ko | exact (kD.alloc _).trans ko
         exact k1.trans' ((((Keeps.refl (fun k => k = Wg.heap.size) Wo).setA 0 _).setA 1 _).setA 2 _) (fun _ _ e => e) (fun i hi e => by have e : i = Wg.heap.size := e; omega)
       exact restH.out (((qB.set (o := 0) (by show 0 < 3; decide) _).set (o := 1) (by show 1 < 3; decide) _).set (o := 2) (by show 2 < 3; decide) _) (hP6.new K7) (hS6.keep (by show 0 < 4; decide) K7 (fun e => e)) (hQ6.keep (by show 0 < 4; decide) K7 (fun e => e)))
set_option maxHeartbeats 500000 in
set_option maxRecDepth 1000000 in
theorem stamps_beg {Q : Exit → Act → World → Prop} {f bg : Int} {r : Ro} {x0 x1 x2 x3 x4 x6 x11 x12 x14 x15 x18 x19 x20 x21 x22 x23 x24 x25 x26 x27 x28 x29 x30 x31 x32 x33 x34 x35 x36 x37 x38 x39 x40 x41 x42 x43 x44 x45 x46 x47 x48 x49 x50 x51 x52 x53 x54 x55 x56 x57 x58 x59 x60 x61 x62 x63 x64 x65 x66 x67 x68 x69 x70 x71 x72 x73 x74 x75 x76 x77 x78 x79 x80 x81 x82 x83 x84 x85 x86 x87 x88 x89 x90 x91 x92 x93 x94 x95 x96 x97 x98 x99 x100 x101 x102 x103 x104 x105 x106 x107 x108 x109 x110 x111 x112 x113 x114 x115 x116 x117 x118 x119 x120 x121 x122 x123 x124 x125 x126 x127 x128 x129 x130 x131 x132 x133 x134 x135 x136 x137 x138 x139 x140 x141 x142 x143 x144 x145 x146 x147 x148 x149 x150 x151 x152 x153 x154 x155 x156 x157 x158 x159 x160 x161 x162 x163 x164 x165 x166 x167 x168 x169 x170 x171 x172 x173 x174 x175 x176 x177 x178 x179 x180 x181 x182 x183 : Value} (hi4 : i < 4) (hP6 : PI w fb B nd xs kd p n t ρ lb P s m Wg) (hOs : Ow w fb ρ lb sB) (hOp : Ow w fb ρ lb pB) (hsp : ¬ sB = pB) (hS6 : CL Wg sB (st4 P0)) (hQ6 : CL Wg pB (pr4 P0)) (hR6 : CL Wg rB r.cells) (hPP : ∀ k, k ≠ i → P k = P0 k) (ha : (P i).T.a ≠ none)
    (hseen : r.seen = (P i).T.st) (hcell : r.cell = 0) (hno : r.no = ((P i).x.no : Int)) (hw : IntKind.i64.wrap (f + bg) = (P i).T.st) (hbg : 0 ≤ bg ∧ bg ≤ 4)
    (hQ : Hid (∀ {y18 y19 y74 y75 y76 y77 y78 y79 y80 y81 y82 y83 y84 y85 y86 y87 y88 y89 y90 y91 y92 y93 y94 y95 y96 y97 y98 y99 y100 y101 y102 y103 y104 y105 y106 y107 y108 y109 y110 : Value} {W7 : World}, PI w fb B nd xs kd p n t ρ lb P s m W7 → CL W7 sB (st4 P) → CL W7 pB (pr4 P) → Q .normal { tmps := #[x0, x1, x2, x3, x4, .pointer (some ⟨fb, 0, none⟩), x6, .int .i64 f, .int .i64 (bg + 1), .pointer (some ⟨sB, 0, none⟩), .pointer (some ⟨pB, 0, none⟩), x11, x12, .pointer (some ⟨rB, 0, none⟩), x14, x15, .int .i64 (i : Int), .pointer (some ⟨B.tb i, 0, none⟩), y18, y19, x20, x21, x22, x23, x24, x25, x26, x27, x28, x29, x30, x31, x32, x33, x34, x35, x36, x37, x38, x39, x40, x41, x42, x43, x44, x45, x46, x47, x48, x49, x50, x51, x52, x53, x54, x55, x56, x57, x58, x59, x60, x61, x62, x63, x64, x65, x66, x67, x68, x69, x70, x71, x72, x73, y74, y75, y76, y77, y78, y79, y80, y81, y82, y83, y84, y85, y86, y87, y88, y89, y90, y91, y92, y93, y94, y95, y96, y97, y98, y99, y100, y101, y102, y103, y104, y105, y106, y107, y108, y109, y110, x111, x112, x113, x114, x115, x116, x117, x118, x119, x120, x121, x122, x123, x124, x125, x126, x127, x128, x129, x130, x131, x132, x133, x134, x135, x136, x137, x138, x139, x140, x141, x142, x143, x144, x145, x146, x147, x148, x149, x150, x151, x152, x153, x154, x155, x156, x157, x158, x159, x160, x161, x162, x163, x164, x165, x166, x167, x168, x169, x170, x171, x172, x173, x174, x175, x176, x177, x178, x179, x180, x181, x182, x183], defers := [] } W7)) :
    (stampsBeg Tryz.f3).wp Tryz.prog Q { tmps := #[x0, x1, x2, x3, x4, .pointer (some ⟨fb, 0, none⟩), x6, .int .i64 f, .int .i64 bg, .pointer (some ⟨sB, 0, none⟩), .pointer (some ⟨pB, 0, none⟩), x11, x12, .pointer (some ⟨rB, 0, none⟩), x14, x15, .int .i64 (i : Int), .pointer (some ⟨B.tb i, 0, none⟩), x18, x19, x20, x21, x22, x23, x24, x25, x26, x27, x28, x29, x30, x31, x32, x33, x34, x35, x36, x37, x38, x39, x40, x41, x42, x43, x44, x45, x46, x47, x48, x49, x50, x51, x52, x53, x54, x55, x56, x57, x58, x59, x60, x61, x62, x63, x64, x65, x66, x67, x68, x69, x70, x71, x72, x73, x74, x75, x76, x77, x78, x79, x80, x81, x82, x83, x84, x85, x86, x87, x88, x89, x90, x91, x92, x93, x94, x95, x96, x97, x98, x99, x100, x101, x102, x103, x104, x105, x106, x107, x108, x109, x110, x111, x112, x113, x114, x115, x116, x117, x118, x119, x120, x121, x122, x123, x124, x125, x126, x127, x128, x129, x130, x131, x132, x133, x134, x135, x136, x137, x138, x139, x140, x141, x142, x143, x144, x145, x146, x147, x148, x149, x150, x151, x152, x153, x154, x155, x156, x157, x158, x159, x160, x161, x162, x163, x164, x165, x166, x167, x168, x169, x170, x171, x172, x173, x174, x175, x176, x177, x178, x179, x180, x181, x182, x183], defers := [] } Wg := by
  have hi4I : (i : Int) < 4 := by omega
  obtain ⟨kr6, F6⟩ := hP6.fm
  have hq6 := hP6.fq.pt i hi4
  have tc := (F6.tc i hi4).1
  have ax6 := F6.ax i
  obtain ⟨ab, hab⟩ : ∃ ab, (P i).T.a = some ab := by
    cases e : (P i).T.a with
    | none => exact absurd e ha
    | some ab => exact ⟨ab, rfl⟩
  have A6 := ax6 ab hi4 hab
  have pa := hq6.so ab hab
  have gc6 := pa.gx.gc
  have e1 : (P i).x.thread = (i : Int) := pa.th.trans hq6.th
  have hOwn : ∀ W, Keeps (fun _ => False) Wg W → Calls Tryz.prog 11 #[.pointer (some ⟨B.wb, 0, none⟩), .int .i64 ((P i).x.no : Int)] W fun e w' => e = .returned (.tuple #[.agg #[.int .i64 (i : Int), .int .i64 (P i).T.st, .int .i64 (P i).T.pr], .int .i64 0]) ∧ Keeps (fun _ => False) W w' := fun W K => by
    have h := owner_ok (F6.st.new K).1 gc6.no
    rw [gc6.at_.1, gc6.at_.2.1, gc6.at_.2.2, e1, pa.st, pa.pr] at h
    exact h
  obtain ⟨st6, D6, _⟩ := hP6.fd
  have kD : Keeps (fun _ => False) Wg Wg.drew := (Keeps.refl _ Wg).drew
  have f0 : Wg.cell? ⟨fb, 1, none⟩ = some (.pointer (some ⟨B.wb, 0, none⟩)) := D6.cl.c 1 _ rfl
  have f1 : Wg.drew.cell? ⟨fb, 1, none⟩ = some (.pointer (some ⟨B.wb, 0, none⟩)) := f0
  have r0 := hR6.c 4 _ rfl
  rw [hno] at r0
  have r1 : Wg.drew.cell? ⟨rB, 4, none⟩ = _ := r0
  have eS : (st4 P0).set i (.int .i64 (P i).stv) = st4 P := by
    have e : P = fun k => if k = i then P i else P0 k := by funext k; by_cases e : k = i; (simp [e]); (simp [e, hPP k e])
    rw [st4_set hi4 (p' := P i), ← e]
  have eP : (pr4 P0).set i (.int .i64 (P i).prv) = pr4 P := by
    have e : P = fun k => if k = i then P i else P0 k := by funext k; by_cases e : k = i; (simp [e]); (simp [e, hPP k e])
    rw [pr4_set hi4 (p' := P i), ← e]
  have sp := stv_some ha
  rw [sp.1] at eS
  rw [sp.2] at eP
  have hb1 : IntKind.i64.wrap (bg + 1) = bg + 1 := by rw [IntKind.wrap_i64]; omega
  obtain ⟨sv, hsv⟩ : ∃ sv, Hid ((P i).T.st = sv) := ⟨_, rfl⟩
  obtain ⟨pv, hpv⟩ : ∃ pv, Hid ((P i).T.pr = pv) := ⟨_, rfl⟩
  rw [hsv.out, hpv.out] at hOwn
  rw [hsv.out] at hseen hw eS
  rw [hpv.out] at eP
  have HS : Hid (_ = _) := eS
  have HP : Hid (_ = _) := eP
  have HPP : Hid (_) := hPP
  clear eS eP hPP sp tc ax6 A6 gc6 e1 F6 hno
  refine wp_then ?_
  dsimp only [stampsBeg, stampsBody, Tryz.f3]
  go_wp2_with fail
  rename_i K hK
  have rest : ∀ {z74 z75 z76 z77 z78 z79 z80 z81 z82 z83 z84 : Value} {ob : Nat} {W8 : World}, CL W8 ob [.int .i64 (i : Int), .int .i64 sv, .int .i64 pv] → PI w fb B nd xs kd p n t ρ lb P s m W8 → CL W8 sB (st4 P0) → CL W8 pB (pr4 P0) → CL W8 rB r.cells → (¬ ob = sB ∧ ¬ ob = pB) → K { tmps := #[x0, x1, x2, x3, x4, .pointer (some ⟨fb, 0, none⟩), x6, .int .i64 f, .int .i64 bg, .pointer (some ⟨sB, 0, none⟩), .pointer (some ⟨pB, 0, none⟩), x11, x12, .pointer (some ⟨rB, 0, none⟩), x14, x15, .int .i64 (i : Int), .pointer (some ⟨B.tb i, 0, none⟩), .pointer (some ⟨ob, 0, none⟩), .int .i64 0, x20, x21, x22, x23, x24, x25, x26, x27, x28, x29, x30, x31, x32, x33, x34, x35, x36, x37, x38, x39, x40, x41, x42, x43, x44, x45, x46, x47, x48, x49, x50, x51, x52, x53, x54, x55, x56, x57, x58, x59, x60, x61, x62, x63, x64, x65, x66, x67, x68, x69, x70, x71, x72, x73, z74, z75, z76, z77, z78, z79, z80, z81, z82, z83, z84, x85, x86, x87, x88, x89, x90, x91, x92, x93, x94, x95, x96, x97, x98, x99, x100, x101, x102, x103, x104, x105, x106, x107, x108, x109, x110, x111, x112, x113, x114, x115, x116, x117, x118, x119, x120, x121, x122, x123, x124, x125, x126, x127, x128, x129, x130, x131, x132, x133, x134, x135, x136, x137, x138, x139, x140, x141, x142, x143, x144, x145, x146, x147, x148, x149, x150, x151, x152, x153, x154, x155, x156, x157, x158, x159, x160, x161, x162, x163, x164, x165, x166, x167, x168, x169, x170, x171, x172, x173, x174, x175, x176, x177, x178, x179, x180, x181, x182, x183], defers := [] } W8 := by
    intro z74 z75 z76 z77 z78 z79 z80 z81 z82 z83 z84 ob W8 hB8 hP8 hS8 hQ8 hR8 hob
    refine hK _ _ ?_
    clear hK
    have a10 := hR8.c 10 _ rfl
    have a11 := hR8.c 11 _ rfl
    rw [hcell] at a10
    rw [hseen] at a11
    have z1 := hS8.z i (by show i < 4; exact hi4)
    have z2 := hQ8.z i (by show i < 4; exact hi4)
    have s1 := hS8.c _ _ (st4_get hi4)
    have s2 := hQ8.c _ _ (pr4_get hi4)
    have o2 := hB8.c 2 _ rfl
    have kS := (Keeps.refl (fun k => k = sB) W8).setA i (.int .i64 sv)
    have hS9 := hS8.set (o := i) (by show i < 4; exact hi4) (.int .i64 sv)
    rw [HS.out] at hS9
    have hP9 := hP8.own kS (fun j _ e => by have e : j = sB := e; rw [e]; exact hOs)
    have hQ9 := hQ8.keep (by show 0 < 4; decide) kS (fun e => hsp e.symm)
    have o29 := kS.cell o2 hob.1
    have s29 := kS.cell s2 (fun e => hsp e.symm)
    have z29 := hQ9.z i (by show i < 4; exact hi4)
    have kQ := (Keeps.refl (fun k => k = pB) (W8.setCell ⟨sB, i, none⟩ (.int .i64 sv))).setA i (.int .i64 pv)
    have hQ10 := hQ9.set (o := i) (by show i < 4; exact hi4) (.int .i64 pv)
    rw [HP.out] at hQ10
    have hP10 := hP9.own kQ (fun j _ e => by have e : j = pB := e; rw [e]; exact hOp)
    have hS10 := hS9.keep (by show 0 < 4; decide) kQ (fun e => hsp e)
    clear hP6 hS6 hQ6 hR6 hq6 pa hOwn hP8 hS8 hQ8 hR8 hB8 kS kQ hP9 hQ9 hS9 r0 r1 f0 f1 D6 hcell hseen
    go_wp2_with (go_at_call 12; refine (num_r _ _).mono ?_; rintro e Wx ⟨rfl, hx_⟩; subst Wx)
    exact hQ.out hP10 hS10 hQ10
  have restH : Hid _ := @rest
  clear rest
  clear hK
  have nn1 := World.new_ne Wg.drew ⟨fb, 1, none⟩ f1
  have nn2 : ¬ Wg.heap.size = fb := nn1
  have nn4 : ¬ fb = Wg.heap.size := fun e => nn2 e.symm
  have mm1 := World.new_ne Wg.drew ⟨rB, 4, none⟩ r1
  have mm2 : ¬ Wg.heap.size = rB := mm1
  have mm4 : ¬ rB = Wg.heap.size := fun e => mm2 e.symm
  have lS := hS6.lt (by show 0 < 4; decide)
  have lP := hQ6.lt (by show 0 < 4; decide)
  go_region_held3 (fun w' => w'.cell? ⟨fb, 1, none⟩ = some (.pointer (some ⟨B.wb, 0, none⟩)) ∧ w'.cell? ⟨rB, 4, none⟩ = some (.int .i64 ((P i).x.no : Int))) (go_keep) (first | (go_at_call 11; refine (hOwn _ (by first | exact kD | exact kD.alloc _ | exact ((Keeps.refl _ Wg).alloc _).drew)).mono ?_; rintro e Wo ⟨rfl, ko⟩; have g1 := ko.cell (p := ⟨fb, 1, none⟩) (by first | exact f1 | exact ((Keeps.refl (fun _ => False) Wg.drew).alloc _).cell f1 (fun e => e) | exact ((Keeps.refl (fun _ => False) Wg).alloc _).cell f0 (fun e => e)) (fun e => e); have nn3 := World.new_ne Wo ⟨fb, 1, none⟩ g1; have h1 := ko.cell (p := ⟨rB, 4, none⟩) (by first | exact r1 | exact ((Keeps.refl (fun _ => False) Wg.drew).alloc _).cell r1 (fun e => e) | exact ((Keeps.refl (fun _ => False) Wg).alloc _).cell r0 (fun e => e)) (fun e => e); have mm3 := World.new_ne Wo ⟨rB, 4, none⟩ h1; (first | (have qB := ow_p1 ko; have b0 := qB.c 0 _ rfl; have zb0 := qB.z 0 (by show 0 < 3; decide); have b1 := qB.c 1 _ rfl; have zb1 := qB.z 1 (by show 1 < 3; decide); have b2 := qB.c 2 _ rfl; have zb2 := qB.z 2 (by show 2 < 3; decide)) | (have qB := ow_p2 ko; have b0 := qB.c 0 _ rfl; have zb0 := qB.z 0 (by show 0 < 3; decide); have b1 := qB.c 1 _ rfl; have zb1 := qB.z 1 (by show 1 < 3; decide); have b2 := qB.c 2 _ rfl; have zb2 := qB.z 2 (by show 2 < 3; decide)) | skip)))
  all_goals show K _ _
  all_goals
    first
    | exact restH.out (CL.made Wo [.int .i64 (i : Int), .int .i64 sv, .int .i64 pv] _) (hP6.new ((kD.trans ko).alloc _)) ((hS6.keep (by show 0 < 4; decide) (kD.trans ko) (fun e => e)).alloc (by show 0 < 4; decide) _) ((hQ6.keep (by show 0 < 4; decide) (kD.trans ko) (fun e => e)).alloc (by show 0 < 4; decide) _) ((hR6.keep (by show 0 < 26; decide) (kD.trans ko) (fun e => e)).alloc (by show 0 < 26; decide) _) (by have := (kD.trans ko).size; omega)
    | (have K7 : Keeps (fun _ => False) Wg (((Wo.setCell ⟨Wg.heap.size, 0, none⟩ (.int .i64 (i : Int))).setCell ⟨Wg.heap.size, 1, none⟩ (.int .i64 sv)).setCell ⟨Wg.heap.size, 2, none⟩ (.int .i64 pv)) := by
         have k1 : Keeps (fun _ => False) Wg Wo := by first | exact ((Keeps.refl _ Wg).alloc _).drew.trans ko | exact (kD.alloc _).trans ko
         exact k1.trans' ((((Keeps.refl (fun k => k = Wg.heap.size) Wo).setA 0 _).setA 1 _).setA 2 _) (fun _ _ e => e) (fun i hi e => by have e : i = Wg.heap.size := e; omega)
       exact restH.out (((qB.set (o := 0) (by show 0 < 3; decide) _).set (o := 1) (by show 1 < 3; decide) _).set (o := 2) (by show 2 < 3; decide) _) (hP6.new K7) (hS6.keep (by show 0 < 4; decide) K7 (fun e => e)) (hQ6.keep (by show 0 < 4; decide) K7 (fun e => e)) (hR6.keep (by show 0 < 26; decide) K7 (fun e => e)) (by omega))
end
end Go.Proofs.YtgjndhbfjofkeaaGreatDoor
