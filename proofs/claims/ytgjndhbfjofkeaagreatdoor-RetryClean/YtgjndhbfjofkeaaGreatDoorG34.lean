import Derived.Test.YtgjndhbfjofkeaaGreatDoorG33
namespace Go.Proofs.YtgjndhbfjofkeaaGreatDoor
open Go.RowKit
def lv (bg tr en oc : Nat → Int) : List Value :=
  [.int .i64 (bg 0), .int .i64 (tr 0), .int .i64 (en 0), .int .i64 (oc 0), .int .i64 (bg 1), .int .i64 (tr 1), .int .i64 (en 1), .int .i64 (oc 1), .int .i64 (bg 2), .int .i64 (tr 2), .int .i64 (en 2), .int .i64 (oc 2), .int .i64 (bg 3), .int .i64 (tr 3), .int .i64 (en 3), .int .i64 (oc 3)]
def up (i : Nat) (v : Int) (f : Nat → Int) (k : Nat) : Int := if k = i then v else f k
section
variable {bg tr en oc : Nat → Int} {i : Nat}
structure LU (w : World) (b i : Nat) (bg tr en oc : Nat → Int) (p' : Pt) (bg' tr' en' oc' : Nat → Int) (w' : World) : Prop where
  cl : CL w' b (lv bg' tr' en' oc')
  ne : ∀ k, k ≠ i → bg' k = bg k ∧ tr' k = tr k ∧ en' k = en k ∧ oc' k = oc k
  li : LI (bg' i) (tr' i) (en' i) (oc' i) p'
  k : Keeps (fun k => k = b) w w'
end
end Go.Proofs.YtgjndhbfjofkeaaGreatDoor

namespace Go.Proofs.YtgjndhbfjofkeaaGreatDoor
open Go.RowKit
theorem rank_none {p : Pt} (h : p.T.a = none) : p.rank = 0 := by unfold Pt.rank; rw [h]
theorem rank_some {p : Pt} {ab : Nat} (h : p.T.a = some ab) : p.rank = p.x.rank := by unfold Pt.rank; rw [h]
theorem rank_mo {kd t i : Nat} {st : Int} {p p' : Pt} {s s' : Ws} {m m' : Mm} {r : Ro} {b : Bool} (h : MO kd t i st p p' s m r b s' m') (hq : PQ kd t i p s m) :
    (b = true ∧ r.kind = 14 ∧ kpT kd = true ∧ r.seen = p.rank ∧ p'.rank = p.rank + 1 ∧ p.rank < 255) ∨ ((b = false ∨ r.kind ≠ 14) ∧ p'.rank = p.rank) := by
  cases h with
  | over h hb hr hp hs hm => exact .inr ⟨.inl hb, by rw [hp]⟩
  | ask h ab ha hal hb hr hm sa =>
    refine .inr ⟨.inl hb, ?_⟩
    have ha' : p'.T.a = some ab := by rw [sa.T]; exact ha
    rw [rank_some ha, rank_some ha', sa.rk]
  | step h hb si =>
    cases si with
    | begin ab c a e hc hp hs hm =>
      subst hp
      refine .inr ⟨.inr ?_, ?_⟩
      · subst e; show (1 : Int) ≠ 14; decide
      · rw [rank_none a, rank_some (ab := ab) rfl]; rfl
    | again ab0 ab q c a d hq' e hc hp hs hm =>
      subst hp
      refine .inr ⟨.inr ?_, ?_⟩
      · subst e; show (2 : Int) ≠ 14; decide
      · rw [rank_some a, rank_some (ab := ab) rfl]; rfl
    | go ab r0 a al e hT sp po =>
      have oT : (p.T.out r0.fin).a = p.T.a := by unfold Tr.out; split <;> rfl
      have a' : p'.T.a = some ab := by rw [hT, oT]; exact a
      rw [rank_some a, rank_some a']
      subst e
      rcases po.sr.rk with ⟨k, kp, lt, rr, q, e1, e2, _⟩ | ⟨k, rr⟩
      · refine .inl ⟨hb, k, kp, ?_, rr, lt⟩
        obtain ⟨q', e', _, _, _, hv⟩ := (hq.so ab a).rk
        obtain rfl : q' = q := by have := e'.symm.trans e1; omega
        exact e2.trans hv
      · exact .inr ⟨.inr k, rr⟩
def rk4 (P : Nat → Pt) : List Value := [.int .i64 (P 0).rank, .int .i64 (P 1).rank, .int .i64 (P 2).rank, .int .i64 (P 3).rank]
theorem rk4_get {P : Nat → Pt} {i : Nat} (hi : i < 4) : (rk4 P)[i]? = some (.int .i64 (P i).rank) := by
  rcases (by omega : i = 0 ∨ i = 1 ∨ i = 2 ∨ i = 3) with rfl | rfl | rfl | rfl <;> rfl
theorem rk4_set {P : Nat → Pt} {i : Nat} {p' : Pt} (hi : i < 4) : (rk4 P).set i (.int .i64 p'.rank) = rk4 (fun k => if k = i then p' else P k) := by
  rcases (by omega : i = 0 ∨ i = 1 ∨ i = 2 ∨ i = 3) with rfl | rfl | rfl | rfl <;> rfl
theorem rk4_same {P : Nat → Pt} {i : Nat} {p' : Pt} (hi : i < 4) (h : p'.rank = (P i).rank) : rk4 P = rk4 (fun k => if k = i then p' else P k) := by
  rw [← rk4_set hi, h]
  rcases (by omega : i = 0 ∨ i = 1 ∨ i = 2 ∨ i = 3) with rfl | rfl | rfl | rfl <;> rfl
theorem rank_le {kd t i : Nat} {p : Pt} {s : Ws} {m : Mm} (hq : PQ kd t i p s m) : 0 ≤ p.rank ∧ p.rank ≤ 255 := by
  cases ha : p.T.a with
  | none => rw [rank_none ha]; omega
  | some ab => rw [rank_some ha]; exact (hq.so ab ha).gx.gc.rk
end Go.Proofs.YtgjndhbfjofkeaaGreatDoor

namespace Go.Proofs.YtgjndhbfjofkeaaGreatDoor
open Go.RowKit Go.Maps Go.ChangeMaps Go.MapKept Go.WideShapes
attribute [local go_sem] Oper.semAt_some run_store_nf run_store_f
theorem ow_p1 {X W : World} (k : Keeps (fun _ => False) (X.alloc (.cells #[.int .i64 0, .int .i64 0, .int .i64 0] 51)) W) : CL W X.heap.size [.int .i64 0, .int .i64 0, .int .i64 0] := (CL.made X [.int .i64 0, .int .i64 0, .int .i64 0] _).keep (by show 0 < 3; decide) k (fun e => e)
theorem ow_p2 {X W : World} (k : Keeps (fun _ => False) (X.alloc (.cells #[.int .i64 0, .int .i64 0, .int .i64 0] 51)).drew W) : CL W X.heap.size [.int .i64 0, .int .i64 0, .int .i64 0] := (CL.made X [.int .i64 0, .int .i64 0, .int .i64 0] _).drew.keep (by show 0 < 3; decide) k (fun e => e)
def ranksTail (f : Func) : Code := match f.body with
  | some (.seq _ (.seq _ (.seq _ (.seq _ (.seq (.seq _ (.block _ (.loop (.seq _ (.seq (.block _ (.seq _ (.seq _ (.seq _ (.seq _ (.seq _ (.seq _ (.seq _ t)))))))) _))))) _))))) => t
  | _ => .skip
theorem wp_then {P : Program} {c : Code} {Q : Exit → Act → World → Prop} {a : Act} {w : World} (h : c.wp P (Exit.then (Q .normal) (fun _ _ _ => False)) a w) : c.wp P Q a w := wp_mono h (fun e a w h => by cases e <;> first | exact h | exact h.elim)
section
variable {w W6 : World} {fb lB nd kd n t i : Nat} {B : Bk} {xs : Nat → Int} {p : Int} {ρ lb : Nat → Nat} {P : Nat → Pt} {s : Ws} {m : Mm}
set_option maxHeartbeats 500000 in
set_option maxRecDepth 1000000 in
theorem ranks_tail {Q : Exit → Act → World → Prop} {x0 x1 x2 x3 x4 x6 x8 x9 x10 x11 x12 x15 x16 x17 x18 x19 x20 x21 x22 x23 x24 x25 x26 x27 x28 x29 x30 x31 x32 x33 x34 x35 x36 x37 x38 x39 x40 x41 x42 x43 x44 x45 x46 x47 x48 x49 x50 x51 x52 x53 x54 x55 x56 x57 x58 x59 x60 x61 x62 x63 x64 x65 x66 x67 x68 x69 x70 x71 x72 x73 x74 x75 x76 x77 x78 x79 x80 x81 x82 x83 x84 x85 x86 x87 x88 x89 x90 x91 x92 x93 x94 x95 x96 x97 x98 x99 x100 x101 x102 x103 x104 x105 x106 x107 x108 x109 x110 x111 x112 x113 x114 x115 x116 x117 x118 x119 x120 x121 x122 x123 x124 x125 x126 x127 x128 x129 x130 x131 x132 x133 x134 x135 x136 x137 x138 x139 x140 x141 x142 x143 x144 x145 x146 : Value} (hi4 : i < 4) (hP : PI w fb B nd xs kd p n t ρ lb P s m W6) (hL : CL W6 lB (rk4 P)) (ha : (P i).T.a ≠ none)
    (hQ : Hid (∀ {y15 y16 y17 y18 y88 y89 y90 y91 y92 y93 y94 y95 y96 y97 y98 y99 y100 y101 y102 y103 y104 y105 y106 y107 y108 y109 y110 y111 y112 y113 y114 y115 y116 y117 y118 y119 y120 y121 y122 y123 y124 y125 y126 y127 y128 y129 y130 y131 y132 y133 y134 y135 y136 y137 y138 y139 : Value} {W7 : World}, PI w fb B nd xs kd p n t ρ lb P s m W7 → CL W7 lB (rk4 P) → Q .normal { tmps := #[x0, x1, x2, x3, x4, .pointer (some ⟨fb, 0, none⟩), x6, .pointer (some ⟨lB, 0, none⟩), x8, x9, x10, x11, x12, .int .i64 (i : Int), .pointer (some ⟨B.tb i, 0, none⟩), y15, y16, y17, y18, x19, x20, x21, x22, x23, x24, x25, x26, x27, x28, x29, x30, x31, x32, x33, x34, x35, x36, x37, x38, x39, x40, x41, x42, x43, x44, x45, x46, x47, x48, x49, x50, x51, x52, x53, x54, x55, x56, x57, x58, x59, x60, x61, x62, x63, x64, x65, x66, x67, x68, x69, x70, x71, x72, x73, x74, x75, x76, x77, x78, x79, x80, x81, x82, x83, x84, x85, x86, x87, y88, y89, y90, y91, y92, y93, y94, y95, y96, y97, y98, y99, y100, y101, y102, y103, y104, y105, y106, y107, y108, y109, y110, y111, y112, y113, y114, y115, y116, y117, y118, y119, y120, y121, y122, y123, y124, y125, y126, y127, y128, y129, y130, y131, y132, y133, y134, y135, y136, y137, y138, y139, x140, x141, x142, x143, x144, x145, x146], defers := [] } W7)) :
    (ranksTail Tryz.f4).wp Tryz.prog Q { tmps := #[x0, x1, x2, x3, x4, .pointer (some ⟨fb, 0, none⟩), x6, .pointer (some ⟨lB, 0, none⟩), x8, x9, x10, x11, x12, .int .i64 (i : Int), .pointer (some ⟨B.tb i, 0, none⟩), x15, x16, x17, x18, x19, x20, x21, x22, x23, x24, x25, x26, x27, x28, x29, x30, x31, x32, x33, x34, x35, x36, x37, x38, x39, x40, x41, x42, x43, x44, x45, x46, x47, x48, x49, x50, x51, x52, x53, x54, x55, x56, x57, x58, x59, x60, x61, x62, x63, x64, x65, x66, x67, x68, x69, x70, x71, x72, x73, x74, x75, x76, x77, x78, x79, x80, x81, x82, x83, x84, x85, x86, x87, x88, x89, x90, x91, x92, x93, x94, x95, x96, x97, x98, x99, x100, x101, x102, x103, x104, x105, x106, x107, x108, x109, x110, x111, x112, x113, x114, x115, x116, x117, x118, x119, x120, x121, x122, x123, x124, x125, x126, x127, x128, x129, x130, x131, x132, x133, x134, x135, x136, x137, x138, x139, x140, x141, x142, x143, x144, x145, x146], defers := [] } W6 := by
  have hi4I : (i : Int) < 4 := by omega
  have hL5 := hL.drew
  have hP6 := hP.new (Keeps.refl _ W6).drew
  clear hL hP
  obtain ⟨kr6, F6⟩ := hP6.fm
  have hq6 := hP6.fq.pt i hi4
  have hRk := F6.t_rank hi4
  have l := hL5.c _ _ (rk4_get hi4)
  have tc := (F6.tc i hi4).1
  have ax6 := F6.ax i
  have hle := rank_le hq6
  obtain ⟨ab, hab⟩ : ∃ ab, (P i).T.a = some ab := by
    cases e : (P i).T.a with
    | none => exact absurd e ha
    | some ab => exact ⟨ab, rfl⟩
  have A6 := ax6 ab hi4 hab
  have hNu := t_number tc hab A6.ax.cl
  have pa := hq6.so ab hab
  have hrx := rank_some hab
  have hle2 : ¬ 255 < (P i).rank := by omega
  obtain ⟨rv, hrv⟩ : ∃ rv, Hid ((P i).rank = rv) := ⟨_, rfl⟩
  rw [hrv.out] at hRk l hle2
  refine wp_then ?_
  dsimp only [ranksTail, Tryz.f4]
  go_wp2_with fail
  refine wp_region_held_drew (S := fun w' => w'.cell? ⟨lB, i, none⟩ = some (.int .i64 rv)) (by kernel_rfl) l (fun hHeld => ?_)
  refine wpAnyH_take (i := 0) (v := ?_) rfl (by kernel_rfl) (by kernel_rfl) (by kernel_rfl) (fun _ _ _ h => h) (Or.inl ⟨by rfl, ?_⟩) (by assumption) ?_
  rotate_left
  · intro wx hSw; (try dsimp only at hSw); go_simp <;> with_reducible rfl
  (try simp only [List.getElem_toArray]); (try simp only [List.getElem_cons_succ]); (try simp only [List.getElem_cons_zero]); (try simp only [Act.put]); (try simp only [List.setIfInBounds_toArray]); (repeat first | simp only [List.set_cons_succ] | simp only [List.set_cons_zero])
  refine wpAnyH_take (i := 2) (v := ?_) rfl (by kernel_rfl) (by kernel_rfl) (by kernel_rfl) (fun _ _ _ h => h) (Or.inl ⟨by rfl, ?_⟩) (by assumption) ?_
  rotate_left
  · intro wx hSw; (try dsimp only at hSw); go_simp <;> with_reducible rfl
  (try simp only [List.getElem_toArray]); (try simp only [List.getElem_cons_succ]); (try simp only [List.getElem_cons_zero]); (try simp only [Act.put]); (try simp only [List.setIfInBounds_toArray]); (repeat first | simp only [List.set_cons_succ] | simp only [List.set_cons_zero])
  refine wpAnyH_take (i := 3) (v := ?_) rfl (by kernel_rfl) (by kernel_rfl) (by kernel_rfl) (fun _ _ _ h => h) (Or.inl ⟨by rfl, ?_⟩) (by assumption) ?_
  rotate_left
  · intro wx hSw; (try dsimp only at hSw); go_simp <;> with_reducible rfl
  (try simp only [List.getElem_toArray]); (try simp only [List.getElem_cons_succ]); (try simp only [List.getElem_cons_zero]); (try simp only [Act.put]); (try simp only [List.setIfInBounds_toArray]); (repeat first | simp only [List.set_cons_succ] | simp only [List.set_cons_zero])
  refine wpAnyH_take (i := 4) (v := ?_) rfl (by kernel_rfl) (by kernel_rfl) (by kernel_rfl) (fun _ _ _ h => h) (Or.inl ⟨by rfl, ?_⟩) (by assumption) ?_
  rotate_left
  · intro wx hSw; (try dsimp only at hSw); go_simp <;> with_reducible rfl
  (try simp only [List.getElem_toArray]); (try simp only [List.getElem_cons_succ]); (try simp only [List.getElem_cons_zero]); (try simp only [Act.put]); (try simp only [List.setIfInBounds_toArray]); (repeat first | simp only [List.set_cons_succ] | simp only [List.set_cons_zero])
  refine wpAnyH_oneW 1 (by kernel_rfl) rfl (by rfl) ?_
  go_simp
  refine hRk.mono ?_
  rintro e Wx ⟨rfl, hx_⟩
  subst hx_
  refine ⟨hHeld, fun _ => ?_⟩
  (try simp only [List.getElem_toArray]); (try simp only [List.getElem_cons_succ]); (try simp only [List.getElem_cons_zero]); (try simp only [Act.put]); (try simp only [List.setIfInBounds_toArray]); (repeat first | simp only [List.set_cons_succ] | simp only [List.set_cons_zero])
  refine wpAnyH_take (i := 5) (v := ?_) rfl (by kernel_rfl) (by kernel_rfl) (by kernel_rfl) (fun _ _ _ h => h) (Or.inl ⟨by rfl, ?_⟩) (by assumption) ?_
  rotate_left
  · intro wx hSw; (try dsimp only at hSw); go_simp <;> with_reducible rfl
  (try simp only [List.getElem_toArray]); (try simp only [List.getElem_cons_succ]); (try simp only [List.getElem_cons_zero]); (try simp only [Act.put]); (try simp only [List.setIfInBounds_toArray]); (repeat first | simp only [List.set_cons_succ] | simp only [List.set_cons_zero])
  refine wpAnyH_take (i := 6) (v := ?_) rfl (by kernel_rfl) (by kernel_rfl) (by kernel_rfl) (fun _ _ _ h => h) (Or.inl ⟨by rfl, ?_⟩) (by assumption) ?_
  rotate_left
  · intro wx hSw; (try dsimp only at hSw); go_simp <;> with_reducible rfl
  (try simp only [List.getElem_toArray]); (try simp only [List.getElem_cons_succ]); (try simp only [List.getElem_cons_zero]); (try simp only [Act.put]); (try simp only [List.setIfInBounds_toArray]); (repeat first | simp only [List.set_cons_succ] | simp only [List.set_cons_zero])
  refine wpAnyH_take (i := 7) (v := ?_) rfl (by kernel_rfl) (by kernel_rfl) (by kernel_rfl) (fun _ _ _ h => h) (Or.inl ⟨by rfl, ?_⟩) (by assumption) ?_
  rotate_left
  · intro wx hSw; (try dsimp only at hSw); go_simp <;> with_reducible rfl
  (try simp only [List.getElem_toArray]); (try simp only [List.getElem_cons_succ]); (try simp only [List.getElem_cons_zero]); (try simp only [Act.put]); (try simp only [List.setIfInBounds_toArray]); (repeat first | simp only [List.set_cons_succ] | simp only [List.set_cons_zero])
  refine wpAnyH_take (i := 8) (v := ?_) rfl (by kernel_rfl) (by kernel_rfl) (by kernel_rfl) (fun _ _ _ h => h) (Or.inl ⟨by rfl, ?_⟩) (by assumption) ?_
  rotate_left
  · intro wx hSw; (try dsimp only at hSw); go_simp <;> with_reducible rfl
  (try simp only [List.getElem_toArray]); (try simp only [List.getElem_cons_succ]); (try simp only [List.getElem_cons_zero]); (try simp only [Act.put]); (try simp only [List.setIfInBounds_toArray]); (repeat first | simp only [List.set_cons_succ] | simp only [List.set_cons_zero])
  refine wpAnyH_take (i := 9) (v := ?_) rfl (by kernel_rfl) (by kernel_rfl) (by kernel_rfl) (fun _ _ _ h => h) (Or.inl ⟨by rfl, ?_⟩) (by assumption) ?_
  rotate_left
  · intro wx hSw; (try dsimp only at hSw); go_simp <;> with_reducible rfl
  (try simp only [List.getElem_toArray]); (try simp only [List.getElem_cons_succ]); (try simp only [List.getElem_cons_zero]); (try simp only [Act.put]); (try simp only [List.setIfInBounds_toArray]); (repeat first | simp only [List.set_cons_succ] | simp only [List.set_cons_zero])
  refine wpAnyH_take (i := 10) (v := ?_) rfl (by kernel_rfl) (by kernel_rfl) (by kernel_rfl) (fun _ _ _ h => h) (Or.inl ⟨by rfl, ?_⟩) (by assumption) ?_
  rotate_left
  · intro wx hSw; (try dsimp only at hSw); go_simp <;> with_reducible rfl
  (try simp only [List.getElem_toArray]); (try simp only [List.getElem_cons_succ]); (try simp only [List.getElem_cons_zero]); (try simp only [Act.put]); (try simp only [List.setIfInBounds_toArray]); (repeat first | simp only [List.set_cons_succ] | simp only [List.set_cons_zero])
  refine wpAnyH_take (i := 11) (v := ?_) rfl (by kernel_rfl) (by kernel_rfl) (by kernel_rfl) (fun _ _ _ h => h) (Or.inl ⟨by rfl, ?_⟩) (by assumption) ?_
  rotate_left
  · intro wx hSw; (try dsimp only at hSw); go_simp <;> with_reducible rfl
  (try simp only [List.getElem_toArray]); (try simp only [List.getElem_cons_succ]); (try simp only [List.getElem_cons_zero]); (try simp only [Act.put]); (try simp only [List.setIfInBounds_toArray]); (repeat first | simp only [List.set_cons_succ] | simp only [List.set_cons_zero])
  refine wpAnyH_done (by kernel_rfl) ?_ _
  generalize W6.drew = Wg at *
  go_wp2_with (go_at_call 13; refine hNu.mono ?_; rintro e Wx ⟨rfl, hx_⟩; subst Wx)
  rename_i K hK
  have rest : ∀ {z17 z18 z88 z89 z90 z91 z92 z93 z94 z95 z96 z97 z98 z99 z100 z101 z102 z103 z104 z105 z106 z107 z108 z109 z110 z111 z112 z113 : Value} {ob : Nat} {W8 : World}, CL W8 ob [.int .i64 (P i).x.thread, .int .i64 (P i).x.stamp, .int .i64 (P i).x.prio] → PI w fb B nd xs kd p n t ρ lb P s m W8 → CL W8 lB (rk4 P) → K { tmps := #[x0, x1, x2, x3, x4, .pointer (some ⟨fb, 0, none⟩), x6, .pointer (some ⟨lB, 0, none⟩), x8, x9, x10, x11, x12, .int .i64 (i : Int), .pointer (some ⟨B.tb i, 0, none⟩), .pointer (some ⟨ob, 0, none⟩), .int .i64 0, z17, z18, x19, x20, x21, x22, x23, x24, x25, x26, x27, x28, x29, x30, x31, x32, x33, x34, x35, x36, x37, x38, x39, x40, x41, x42, x43, x44, x45, x46, x47, x48, x49, x50, x51, x52, x53, x54, x55, x56, x57, x58, x59, x60, x61, x62, x63, x64, x65, x66, x67, x68, x69, x70, x71, x72, x73, x74, x75, x76, x77, x78, x79, x80, x81, x82, x83, x84, x85, x86, x87, z88, z89, z90, z91, z92, z93, z94, z95, z96, z97, z98, z99, z100, z101, z102, z103, z104, z105, z106, z107, z108, z109, z110, z111, z112, z113, x114, x115, x116, x117, x118, x119, x120, x121, x122, x123, x124, x125, x126, x127, x128, x129, x130, x131, x132, x133, x134, x135, x136, x137, x138, x139, x140, x141, x142, x143, x144, x145, x146], defers := [] } W8 := by
    intro z17 z18 z88 z89 z90 z91 z92 z93 z94 z95 z96 z97 z98 z99 z100 z101 z102 z103 z104 z105 z106 z107 z108 z109 z110 z111 z112 z113 ob W8 hB8 hP8 hL8
    refine hK _ _ ?_
    clear hK
    have hP9 := hP8.new (Keeps.refl _ W8).drew
    have hL9 := hL8.drew
    obtain ⟨kr9, F9⟩ := hP9.fm
    obtain ⟨st9, D9, _⟩ := hP9.fd
    obtain ⟨q, eq, q0, ql, qf, qv⟩ := pa.rk
    have hPk := speek F9.st ql
    have ev : (ca m.cells q).2 = rv := by rw [← hrv.out, hrx]; exact qv
    rw [ev] at hPk
    have g0 : W8.drew.cell? ⟨fb, 0, none⟩ = some (.pointer (some ⟨B.mb, 0, none⟩)) := D9.cl.c 0 _ rfl
    have g2 : W8.drew.cell? ⟨ob, 2, none⟩ = some (.int .i64 (q : Int)) := by have := hB8.drew.c 2 _ rfl; rw [eq] at this; exact this
    have l9 := hL9.c _ _ (rk4_get hi4)
    rw [hrv.out] at l9
    clear hNu hRk F9 D9 hP8 hL8 hB8 eq ev qv qf q0 F6 hP6 hL5 l tc ax6 A6 hq6 pa hle hrx
    go_wp2_with fail
    refine wp_region_held_drew (S := fun w' => w'.cell? ⟨fb, 0, none⟩ = some (.pointer (some ⟨B.mb, 0, none⟩)) ∧ w'.cell? ⟨ob, 2, none⟩ = some (.int .i64 (q : Int))) (by kernel_rfl) ⟨g0, g2⟩ (fun hHeld => ?_)
    refine wpAnyH_take (i := 0) (v := ?_) rfl (by kernel_rfl) (by kernel_rfl) (by kernel_rfl) (fun _ _ _ h => h) (Or.inl ⟨by rfl, ?_⟩) (by assumption) ?_
    rotate_left
    · intro wx hSw; (try dsimp only at hSw); go_simp <;> with_reducible rfl
    (try simp only [List.getElem_toArray]); (try simp only [List.getElem_cons_succ]); (try simp only [List.getElem_cons_zero]); (try simp only [Act.put]); (try simp only [List.setIfInBounds_toArray]); (repeat first | simp only [List.set_cons_succ] | simp only [List.set_cons_zero])
    refine wpAnyH_take (i := 1) (v := ?_) rfl (by kernel_rfl) (by kernel_rfl) (by kernel_rfl) (fun _ _ _ h => h) (Or.inl ⟨by rfl, ?_⟩) (by assumption) ?_
    rotate_left
    · intro wx hSw; (try dsimp only at hSw); go_simp <;> with_reducible rfl
    (try simp only [List.getElem_toArray]); (try simp only [List.getElem_cons_succ]); (try simp only [List.getElem_cons_zero]); (try simp only [Act.put]); (try simp only [List.setIfInBounds_toArray]); (repeat first | simp only [List.set_cons_succ] | simp only [List.set_cons_zero])
    refine wpAnyH_take (i := 2) (v := ?_) rfl (by kernel_rfl) (by kernel_rfl) (by kernel_rfl) (fun _ _ _ h => h) (Or.inl ⟨by rfl, ?_⟩) (by assumption) ?_
    rotate_left
    · intro wx hSw; (try dsimp only at hSw); go_simp <;> with_reducible rfl
    (try simp only [List.getElem_toArray]); (try simp only [List.getElem_cons_succ]); (try simp only [List.getElem_cons_zero]); (try simp only [Act.put]); (try simp only [List.setIfInBounds_toArray]); (repeat first | simp only [List.set_cons_succ] | simp only [List.set_cons_zero])
    refine wpAnyH_take (i := 3) (v := ?_) rfl (by kernel_rfl) (by kernel_rfl) (by kernel_rfl) (fun _ _ _ h => h) (Or.inl ⟨by rfl, ?_⟩) (by assumption) ?_
    rotate_left
    · intro wx hSw; (try dsimp only at hSw); go_simp <;> with_reducible rfl
    (try simp only [List.getElem_toArray]); (try simp only [List.getElem_cons_succ]); (try simp only [List.getElem_cons_zero]); (try simp only [Act.put]); (try simp only [List.setIfInBounds_toArray]); (repeat first | simp only [List.set_cons_succ] | simp only [List.set_cons_zero])
    refine wpAnyH_take (i := 4) (v := ?_) rfl (by kernel_rfl) (by kernel_rfl) (by kernel_rfl) (fun _ _ _ h => h) (Or.inl ⟨by rfl, ?_⟩) (by assumption) ?_
    rotate_left
    · intro wx hSw; (try dsimp only at hSw); go_simp <;> with_reducible rfl
    (try simp only [List.getElem_toArray]); (try simp only [List.getElem_cons_succ]); (try simp only [List.getElem_cons_zero]); (try simp only [Act.put]); (try simp only [List.setIfInBounds_toArray]); (repeat first | simp only [List.set_cons_succ] | simp only [List.set_cons_zero])
    refine wpAnyH_take (i := 5) (v := ?_) rfl (by kernel_rfl) (by kernel_rfl) (by kernel_rfl) (fun _ _ _ h => h) (Or.inl ⟨by rfl, ?_⟩) (by assumption) ?_
    rotate_left
    · intro wx hSw; (try dsimp only at hSw); go_simp <;> with_reducible rfl
    (try simp only [List.getElem_toArray]); (try simp only [List.getElem_cons_succ]); (try simp only [List.getElem_cons_zero]); (try simp only [Act.put]); (try simp only [List.setIfInBounds_toArray]); (repeat first | simp only [List.set_cons_succ] | simp only [List.set_cons_zero])
    refine wpAnyH_take (i := 6) (v := ?_) rfl (by kernel_rfl) (by kernel_rfl) (by kernel_rfl) (fun _ _ _ h => h) (Or.inl ⟨by rfl, ?_⟩) (by assumption) ?_
    rotate_left
    · intro wx hSw; (try dsimp only at hSw); go_simp <;> with_reducible rfl
    (try simp only [List.getElem_toArray]); (try simp only [List.getElem_cons_succ]); (try simp only [List.getElem_cons_zero]); (try simp only [Act.put]); (try simp only [List.setIfInBounds_toArray]); (repeat first | simp only [List.set_cons_succ] | simp only [List.set_cons_zero])
    refine wpAnyH_oneW 7 (by kernel_rfl) rfl (by rfl) ?_
    go_simp
    refine hPk.mono ?_
    rintro e Wx ⟨rfl, hx_⟩
    subst hx_
    refine ⟨hHeld, fun _ _ => ?_⟩
    (try simp only [List.getElem_toArray]); (try simp only [List.getElem_cons_succ]); (try simp only [List.getElem_cons_zero]); (try simp only [Act.put]); (try simp only [List.setIfInBounds_toArray]); (repeat first | simp only [List.set_cons_succ] | simp only [List.set_cons_zero])
    refine wpAnyH_take (i := 8) (v := ?_) rfl (by kernel_rfl) (by kernel_rfl) (by kernel_rfl) (fun _ _ _ h => h) (Or.inl ⟨by rfl, ?_⟩) (by assumption) ?_
    rotate_left
    · intro wx hSw; (try dsimp only at hSw); go_simp <;> with_reducible rfl
    (try simp only [List.getElem_toArray]); (try simp only [List.getElem_cons_succ]); (try simp only [List.getElem_cons_zero]); (try simp only [Act.put]); (try simp only [List.setIfInBounds_toArray]); (repeat first | simp only [List.set_cons_succ] | simp only [List.set_cons_zero])
    refine wpAnyH_take (i := 9) (v := ?_) rfl (by kernel_rfl) (by kernel_rfl) (by kernel_rfl) (fun _ _ _ h => h) (Or.inl ⟨by rfl, ?_⟩) (by assumption) ?_
    rotate_left
    · intro wx hSw; (try dsimp only at hSw); go_simp <;> with_reducible rfl
    (try simp only [List.getElem_toArray]); (try simp only [List.getElem_cons_succ]); (try simp only [List.getElem_cons_zero]); (try simp only [Act.put]); (try simp only [List.setIfInBounds_toArray]); (repeat first | simp only [List.set_cons_succ] | simp only [List.set_cons_zero])
    refine wpAnyH_take (i := 10) (v := ?_) rfl (by kernel_rfl) (by kernel_rfl) (by kernel_rfl) (fun _ _ _ h => h) (Or.inl ⟨by rfl, ?_⟩) (by assumption) ?_
    rotate_left
    · intro wx hSw; (try dsimp only at hSw); go_simp <;> with_reducible rfl
    (try simp only [List.getElem_toArray]); (try simp only [List.getElem_cons_succ]); (try simp only [List.getElem_cons_zero]); (try simp only [Act.put]); (try simp only [List.setIfInBounds_toArray]); (repeat first | simp only [List.set_cons_succ] | simp only [List.set_cons_zero])
    refine wpAnyH_take (i := 11) (v := ?_) rfl (by kernel_rfl) (by kernel_rfl) (by kernel_rfl) (fun _ _ _ h => h) (Or.inl ⟨by rfl, ?_⟩) (by assumption) ?_
    rotate_left
    · intro wx hSw; (try dsimp only at hSw); go_simp <;> with_reducible rfl
    (try simp only [List.getElem_toArray]); (try simp only [List.getElem_cons_succ]); (try simp only [List.getElem_cons_zero]); (try simp only [Act.put]); (try simp only [List.setIfInBounds_toArray]); (repeat first | simp only [List.set_cons_succ] | simp only [List.set_cons_zero])
    refine wpAnyH_take (i := 12) (v := ?_) rfl (by kernel_rfl) (by kernel_rfl) (by kernel_rfl) (fun _ _ _ h => h) (Or.inl ⟨by rfl, ?_⟩) (by assumption) ?_
    rotate_left
    · intro wx hSw; (try dsimp only at hSw); go_simp <;> with_reducible rfl
    (try simp only [List.getElem_toArray]); (try simp only [List.getElem_cons_succ]); (try simp only [List.getElem_cons_zero]); (try simp only [Act.put]); (try simp only [List.setIfInBounds_toArray]); (repeat first | simp only [List.set_cons_succ] | simp only [List.set_cons_zero])
    refine wpAnyH_done (by kernel_rfl) ?_ _
    generalize W8.drew = W9 at *
    go_wp2_with (go_at_call 12; refine (num_r _ _).mono ?_; rintro e Wx ⟨rfl, hx_⟩; subst Wx)
    exact hQ.out hP9 hL9
  have restH : Hid _ := @rest
  clear rest
  clear hK
  obtain ⟨st6, D6, _⟩ := hP6.fd
  have kD : Keeps (fun _ => False) Wg Wg.drew := (Keeps.refl _ Wg).drew
  have f0 : Wg.cell? ⟨fb, 1, none⟩ = some (.pointer (some ⟨B.wb, 0, none⟩)) := D6.cl.c 1 _ rfl
  have f1 : Wg.drew.cell? ⟨fb, 1, none⟩ = some (.pointer (some ⟨B.wb, 0, none⟩)) := f0
  have hNu2 : ∀ W, Keeps (fun _ => False) Wg W → Calls Tryz.prog 13 #[.pointer (some ⟨B.tb i, 0, none⟩)] W fun e w' => e = .returned (.int .i64 ((P i).x.no : Int)) ∧ w' = W := fun W K => t_number (tc.keep (by show 0 < 13; decide) K (fun e => e)) hab (A6.ax.cl.keep (by show 0 < 36; decide) K (fun e => e))
  have gc6 := pa.gx.gc
  have hOwn : ∀ W, Keeps (fun _ => False) Wg W → Calls Tryz.prog 11 #[.pointer (some ⟨B.wb, 0, none⟩), .int .i64 ((P i).x.no : Int)] W fun e w' => e = .returned (.tuple #[.agg #[.int .i64 (P i).x.thread, .int .i64 (P i).x.stamp, .int .i64 (P i).x.prio], .int .i64 0]) ∧ Keeps (fun _ => False) W w' := fun W K => by
    have h := owner_ok (F6.st.new K).1 gc6.no
    rw [gc6.at_.1, gc6.at_.2.1, gc6.at_.2.2] at h
    exact h
  clear hNu hRk l
  have nn1 := World.new_ne Wg.drew ⟨fb, 1, none⟩ f1
  have nn2 : ¬ Wg.heap.size = fb := nn1
  have nn4 : ¬ fb = Wg.heap.size := fun e => nn2 e.symm
  go_region_held3 (fun w' => w'.cell? ⟨fb, 1, none⟩ = some (.pointer (some ⟨B.wb, 0, none⟩))) (go_keep) (first | (go_at_call 13; refine (hNu2 _ (by first | exact kD | exact kD.alloc _ | exact ((Keeps.refl _ Wg).alloc _).drew)).mono ?_; rintro e Wx ⟨rfl, hx_⟩; subst Wx) | (go_at_call 11; refine (hOwn _ (by first | exact kD | exact kD.alloc _ | exact ((Keeps.refl _ Wg).alloc _).drew)).mono ?_; rintro e Wo ⟨rfl, ko⟩; have g1 := ko.cell (p := ⟨fb, 1, none⟩) (by first | exact f1 | exact ((Keeps.refl (fun _ => False) Wg.drew).alloc _).cell f1 (fun e => e) | exact ((Keeps.refl (fun _ => False) Wg).alloc _).cell f0 (fun e => e)) (fun e => e); have nn3 := World.new_ne Wo ⟨fb, 1, none⟩ g1; (first | (have qB := ow_p1 ko; have b0 := qB.c 0 _ rfl; have zb0 := qB.z 0 (by show 0 < 3; decide); have b1 := qB.c 1 _ rfl; have zb1 := qB.z 1 (by show 1 < 3; decide); have b2 := qB.c 2 _ rfl; have zb2 := qB.z 2 (by show 2 < 3; decide)) | (have qB := ow_p2 ko; have b0 := qB.c 0 _ rfl; have zb0 := qB.z 0 (by show 0 < 3; decide); have b1 := qB.c 1 _ rfl; have zb1 := qB.z 1 (by show 1 < 3; decide); have b2 := qB.c 2 _ rfl; have zb2 := qB.z 2 (by show 2 < 3; decide)) | skip)))
  all_goals show K _ _
  · exact restH.out (CL.made Wo [.int .i64 (P i).x.thread, .int .i64 (P i).x.stamp, .int .i64 (P i).x.prio] _) (hP6.new ((kD.trans ko).alloc _)) ((hL5.keep (by show 0 < 4; decide) (kD.trans ko) (fun e => e)).alloc (by show 0 < 4; decide) _)
  all_goals
    have K7 : Keeps (fun _ => False) Wg (((Wo.setCell ⟨Wg.heap.size, 0, none⟩ (.int .i64 (P i).x.thread)).setCell ⟨Wg.heap.size, 1, none⟩ (.int .i64 (P i).x.stamp)).setCell ⟨Wg.heap.size, 2, none⟩ (.int .i64 (P i).x.prio)) := by
      have k1 : Keeps (fun _ => False) Wg Wo := by first | exact ((Keeps.refl _ Wg).alloc _).drew.trans ko | exact (kD.alloc _).trans ko
      exact k1.trans' ((((Keeps.refl (fun k => k = Wg.heap.size) Wo).setA 0 _).setA 1 _).setA 2 _) (fun _ _ e => e) (fun i hi e => by have e : i = Wg.heap.size := e; omega)
    exact restH.out (((qB.set (o := 0) (by show 0 < 3; decide) _).set (o := 1) (by show 1 < 3; decide) _).set (o := 2) (by show 2 < 3; decide) _) (hP6.new K7) (hL5.keep (by show 0 < 4; decide) K7 (fun e => e))
end
end Go.Proofs.YtgjndhbfjofkeaaGreatDoor

