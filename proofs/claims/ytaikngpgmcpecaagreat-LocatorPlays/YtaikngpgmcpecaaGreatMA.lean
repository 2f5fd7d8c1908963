import Derived.Test.YtaikngpgmcpecaaGreatRLD
import Derived.Test.YtaikngpgmcpecaaGreatRLE
namespace Go.Proofs.YtaikngpgmcpecaaGreat
open Go.RowKit
theorem inn_no {n : Nat} {i : Int} (h : i < 0 ∨ (n : Int) ≤ i) : inn 0 n i = false := by simp [inn]; omega
theorem inn_no1 {n : Nat} {i : Int} (h : i < 1 ∨ (n : Int) ≤ i) : inn 1 n i = false := by simp [inn]; omega
section
variable {w : World} {qb rb : Nat} {sv : Nat → Value} {σ : Nat → Nat} {B D : Nat → Prop} {s : Ws} {m : Mm}
set_option maxHeartbeats 1600000 in
set_option maxRecDepth 1000000 in
theorem rAttempt_no (h : DW w qb rb sv σ B s m) (th st pr : Int) (hr : s.roomA m = false) (hcl : m.cells.length ≤ 65536) : Calls Tryz.prog 68 #[.pointer (some ⟨qb, 0, none⟩), .agg #[.int .i64 th, .int .i64 st, .int .i64 pr]] w fun e w' => e = .returned (.tuple #[.int .i64 0, .int .i64 58]) ∧ Keeps (fun _ => False) w w' := by
  obtain ⟨w1, hw1⟩ : ∃ x, x = w.alloc (.cells #[.int .i64 th, .int .i64 st, .int .i64 pr] 54) := ⟨_, rfl⟩
  have k1 : Keeps (fun _ => False) w w1 := by rw [hw1]; exact (Keeps.refl _ w).alloc _
  have h1 := h.new k1
  have f0a : ∀ ob, (w.alloc ob).cell? ⟨qb, 0, none⟩ = some (.pointer (some ⟨rb, 0, none⟩)) := fun ob => ((Keeps.refl (fun _ => False) w).alloc ob).cell h.f0 id
  obtain ⟨a2, cp2, f2, _⟩ := h1.l2
  have hsz := rsize_any h1.ri
  have hr' : 16384 ≤ s.atts.length ∨ (s.atts.length < 16384 ∧ 65536 < m.cells.length + 2) := by
    simp only [Ws.roomA, Bool.and_eq_false_iff, decide_eq_false_iff_not] at hr
    omega
  generalize s.atts.length = n2 at *
  generalize m.cells.length = cl at *
  have gw : IntKind.i64.wrap ((cl : Int) + 2) = (cl : Int) + 2 := by rw [IntKind.wrap_i64]; omega
  clear h h1 hr
  rcases hr' with hr | ⟨hr1, hr2⟩
  · have d1 : decide ((n2 : Int) ≥ 16384) = true := decide_eq_true (by omega)
    have d2 : decide ((16384 : Int) ≤ (n2 : Int)) = true := decide_eq_true (by omega)
    have d3 : decide (16384 ≤ n2) = true := decide_eq_true hr
    go_enter Tryz.func68, Tryz.ntmps68
    go_wp2_with fail
    rw [← hw1]
    refine hsz.mono ?_
    clear hsz
    rintro e w' ⟨rfl, e'⟩
    obtain rfl := e'.symm
    clear hw1 f0a
    go_wp2_with fail
    go_ret2
    exact ⟨rfl, k1⟩
  · have d1 : decide ((n2 : Int) ≥ 16384) = false := decide_eq_false (by omega)
    have d2 : decide ((16384 : Int) ≤ (n2 : Int)) = false := decide_eq_false (by omega)
    have d3 : decide (16384 ≤ n2) = false := decide_eq_false (by omega)
    have d4 : decide ((cl : Int) + 2 > 65536) = true := decide_eq_true (by omega)
    have d5 : decide ((65536 : Int) < (cl : Int) + 2) = true := decide_eq_true (by omega)
    go_enter Tryz.func68, Tryz.ntmps68
    go_wp2_with fail
    rw [← hw1]
    refine hsz.mono ?_
    clear hsz
    rintro e w' ⟨rfl, e'⟩
    obtain rfl := e'.symm
    clear hw1 f0a
    go_wp2_with fail
    go_ret2
    exact ⟨rfl, k1⟩
set_option maxHeartbeats 1600000 in
set_option maxRecDepth 1000000 in
theorem rMake_att (h : DW w qb rb sv σ B s m) {att : Int} (ha : inn 1 s.atts.length att = false) (old : Int) : Calls Tryz.prog 69 #[.pointer (some ⟨qb, 0, none⟩), .int .i64 att, .int .i64 old] w fun e w' => e = .returned (.tuple #[.int .i64 0, .int .i64 51]) ∧ Keeps (fun _ => False) w w' := by
  have hc1 := rmade_any h att
  rw [ha] at hc1
  clear h ha
  go_enter Tryz.func69, Tryz.ntmps69
  go_wp2_with (go_at_call 96; refine hc1.mono ?_; clear hc1; rintro e w' ⟨rfl, rfl⟩)
  go_ret2
  exact ⟨rfl, Keeps.refl _ _⟩
set_option maxHeartbeats 1600000 in
set_option maxRecDepth 1000000 in
theorem rMake_ver (h : DW w qb rb sv σ B s m) {att : Nat} (ha1 : 1 ≤ att) (ha : att < s.atts.length) {old : Int} (ho : inn 0 s.locs.length old = false) : Calls Tryz.prog 69 #[.pointer (some ⟨qb, 0, none⟩), .int .i64 (att : Int), .int .i64 old] w fun e w' => e = .returned (.tuple #[.int .i64 0, .int .i64 53]) ∧ Keeps (fun _ => False) w w' := by
  have hc1 := rmade_any h (att : Int)
  rw [inn_ok1 ha1 ha] at hc1
  have hc2 := rloc_any h old
  rw [ho] at hc2
  clear h ha ha1 ho
  go_enter Tryz.func69, Tryz.ntmps69
  go_wp2_with (first | (go_at_call 96; refine hc1.mono ?_; clear hc1; rintro e w' ⟨rfl, rfl⟩) | (go_at_call 94; refine hc2.mono ?_; clear hc2; rintro e w' ⟨rfl, rfl⟩))
  go_ret2
  exact ⟨rfl, Keeps.refl _ _⟩
set_option maxHeartbeats 1600000 in
set_option maxRecDepth 1000000 in
theorem rMake_may (h : DW w qb rb sv σ B s m) (hg : m.fit) (hl : m.log.length ≤ 4611686018427387903) (f : Wf s m) {att : Nat} (ha1 : 1 ≤ att) (ha : att < s.atts.length) {old : Nat} (ho : old < s.locs.length) (hC : s.isC m (s.lo old).owner = false) : Calls Tryz.prog 69 #[.pointer (some ⟨qb, 0, none⟩), .int .i64 (att : Int), .int .i64 (old : Int)] w fun e w' => e = .returned (.tuple #[.int .i64 0, .int .i64 53]) ∧ Keeps (fun _ => False) w w' := by
  have hc1 := rmade_any h (att : Int)
  rw [inn_ok1 ha1 ha] at hc1
  have hc2 := rloc_any h (old : Int)
  rw [inn_ok ho] at hc2
  have HC := isC_not.1 hC
  obtain ⟨a3, cp3, f3, hx3⟩ := h.l3
  obtain ⟨g3, rfl, _, x0, x1, x2⟩ := hx3 old ho
  have hoI : (old : Int) < (s.locs.length : Int) := by omega
  have ho0 : (0 : Int) ≤ (old : Int) := by omega
  have his := ris_any h hg (f.lo old ho).2.2 (f.at_ _ (f.lo old ho).2.2).1 hl
  obtain ⟨vv, hvv⟩ : ∃ x, x = m.val (s.att (s.lo old).owner).status := ⟨_, rfl⟩
  rw [← hvv] at his HC
  obtain ⟨ow, how⟩ : ∃ x, x = (s.lo old).owner := ⟨_, rfl⟩
  rw [← how] at his x0
  obtain ⟨n3, hn3⟩ : ∃ x, x = s.locs.length := ⟨_, rfl⟩
  rw [← hn3] at f3 hoI
  have v1 : (vv != 2) = true := by simpa using HC
  clear h ha ha1 ho hC f hvv how hn3 hx3 HC
  go_enter Tryz.func69, Tryz.ntmps69
  go_wp2_with (first | (go_at_call 96; refine hc1.mono ?_; clear hc1; rintro e w' ⟨rfl, rfl⟩) | (go_at_call 94; refine hc2.mono ?_; clear hc2; rintro e w' ⟨rfl, rfl⟩) | (go_at_call 97; refine his.mono ?_; clear his; rintro e w4 ⟨rfl, K4⟩))
  go_ret2
  exact ⟨rfl, K4⟩
set_option maxHeartbeats 1600000 in
set_option maxRecDepth 1000000 in
theorem rMake_room (h : DW w qb rb sv σ B s m) (hg : m.fit) (hl : m.log.length ≤ 4611686018427387903) (f : Wf s m) {att : Nat} (ha1 : 1 ≤ att) (ha : att < s.atts.length) {old : Nat} (ho : old < s.locs.length) (hC : s.isC m (s.lo old).owner = true) (hr : 16384 ≤ s.locs.length) : Calls Tryz.prog 69 #[.pointer (some ⟨qb, 0, none⟩), .int .i64 (att : Int), .int .i64 (old : Int)] w fun e w' => e = .returned (.tuple #[.int .i64 0, .int .i64 58]) ∧ Keeps (fun _ => False) w w' := by
  have hc1 := rmade_any h (att : Int)
  rw [inn_ok1 ha1 ha] at hc1
  have hc2 := rloc_any h (old : Int)
  rw [inn_ok ho] at hc2
  have HC := isC_iff.1 hC
  obtain ⟨a3, cp3, f3, hx3⟩ := h.l3
  obtain ⟨g3, rfl, _, x0, x1, x2⟩ := hx3 old ho
  have hoI : (old : Int) < (s.locs.length : Int) := by omega
  have ho0 : (0 : Int) ≤ (old : Int) := by omega
  have his := ris_any h hg (f.lo old ho).2.2 (f.at_ _ (f.lo old ho).2.2).1 hl
  obtain ⟨vv, hvv⟩ : ∃ x, x = m.val (s.att (s.lo old).owner).status := ⟨_, rfl⟩
  rw [← hvv] at his HC
  obtain ⟨ow, how⟩ : ∃ x, x = (s.lo old).owner := ⟨_, rfl⟩
  rw [← how] at his x0
  obtain ⟨n3, hn3⟩ : ∃ x, x = s.locs.length := ⟨_, rfl⟩
  rw [← hn3] at f3 hoI
  have v1 : (vv != 2) = false := by simpa using HC
  rw [← hn3] at hr
  have d1 : decide ((n3 : Int) ≥ 16384) = true := decide_eq_true (by omega)
  have d2 : decide ((16384 : Int) ≤ (n3 : Int)) = true := decide_eq_true (by omega)
  have d3 : decide (16384 ≤ n3) = true := decide_eq_true hr
  clear h ha ha1 ho hC f hvv how hn3 hx3 HC
  go_enter Tryz.func69, Tryz.ntmps69
  go_wp2_with (first | (go_at_call 96; refine hc1.mono ?_; clear hc1; rintro e w' ⟨rfl, rfl⟩) | (go_at_call 94; refine hc2.mono ?_; clear hc2; rintro e w' ⟨rfl, rfl⟩) | (go_at_call 97; refine his.mono ?_; clear his; rintro e w4 ⟨rfl, K4⟩; have f3 := K4.cell f3 id))
  go_ret2
  exact ⟨rfl, K4⟩
set_option maxHeartbeats 1600000 in
set_option maxRecDepth 1000000 in
theorem rPut_loc (h : DW w qb rb sv σ B s m) {i : Int} (hi : inn 0 s.locs.length i = false) (v : Vl) : Calls Tryz.prog 70 #[.pointer (some ⟨qb, 0, none⟩), .int .i64 i, .agg #[.int .i64 v.num, .int .i64 v.next, .bool v.dead]] w fun e w' => e = .returned (.int .i64 52) ∧ Keeps (fun _ => False) w w' := by
  obtain ⟨w0, hw0⟩ : ∃ x, x = w.alloc (.cells #[.int .i64 v.num, .int .i64 v.next, .bool v.dead] 37) := ⟨_, rfl⟩
  have k0 : Keeps (fun _ => False) w w0 := by rw [hw0]; exact (Keeps.refl _ w).alloc _
  have h := h.new k0
  have hc2 := rloc_any h i
  rw [hi] at hc2
  have HW0 : Hid (w0 = w.alloc (.cells #[.int .i64 v.num, .int .i64 v.next, .bool v.dead] 37)) := hw0
  clear hw0
  clear h hi
  go_enter Tryz.func70, Tryz.ntmps70
  refine wp_seq_k (fun KK hKK => ?_)
  have hKH : Hid _ := hKK
  clear hKK
  go_wp2_with fail
  refine hKH.out _ _ ?_
  clear hKH KK
  rw [← HW0.out]
  clear HW0
  go_wp2_with (go_at_call 94; refine hc2.mono ?_; clear hc2; rintro e w' ⟨rfl, rfl⟩)
  go_ret
  exact ⟨rfl, k0⟩
set_option maxHeartbeats 1600000 in
set_option maxRecDepth 1000000 in
theorem rPut_own (h : DW w qb rb sv σ B s m) {i : Nat} (hi : i < s.locs.length) (ho : (s.lo i).owner = 0) (v : Vl) : Calls Tryz.prog 70 #[.pointer (some ⟨qb, 0, none⟩), .int .i64 (i : Int), .agg #[.int .i64 v.num, .int .i64 v.next, .bool v.dead]] w fun e w' => e = .returned (.int .i64 56) ∧ Keeps (fun _ => False) w w' := by
  obtain ⟨w0, hw0⟩ : ∃ x, x = w.alloc (.cells #[.int .i64 v.num, .int .i64 v.next, .bool v.dead] 37) := ⟨_, rfl⟩
  have k0 : Keeps (fun _ => False) w w0 := by rw [hw0]; exact (Keeps.refl _ w).alloc _
  have h := h.new k0
  obtain ⟨a3, cp3, f3, hx3⟩ := h.l3
  obtain ⟨g3, rfl, _, x0, x1, x2⟩ := hx3 i hi
  have hoI : (i : Int) < (s.locs.length : Int) := by omega
  have ho0 : (0 : Int) ≤ (i : Int) := by omega
  have hc2 := rloc_any h (i : Int)
  rw [inn_ok hi] at hc2
  rw [ho] at x0
  obtain ⟨n3, hn3⟩ : ∃ x, x = s.locs.length := ⟨_, rfl⟩
  rw [← hn3] at f3 hoI
  have HW0 : Hid (w0 = w.alloc (.cells #[.int .i64 v.num, .int .i64 v.next, .bool v.dead] 37)) := hw0
  clear hw0
  clear h hi ho hn3 hx3
  go_enter Tryz.func70, Tryz.ntmps70
  refine wp_seq_k (fun KK hKK => ?_)
  have hKH : Hid _ := hKK
  clear hKK
  go_wp2_with fail
  refine hKH.out _ _ ?_
  clear hKH KK
  rw [← HW0.out]
  clear HW0
  go_wp2_with (go_at_call 94; refine hc2.mono ?_; clear hc2; rintro e w' ⟨rfl, rfl⟩)
  go_ret
  exact ⟨rfl, k0⟩
set_option maxHeartbeats 1600000 in
set_option maxRecDepth 1000000 in
theorem rPut_done (h : DW w qb rb sv σ B s m) (hg : m.fit) (hl : m.log.length ≤ 4611686018427387903) (f : Wf s m) {i : Nat} (hi : i < s.locs.length) (ho : (s.lo i).owner ≠ 0) (hC : s.isC m (s.lo i).owner = true) (v : Vl) : Calls Tryz.prog 70 #[.pointer (some ⟨qb, 0, none⟩), .int .i64 (i : Int), .agg #[.int .i64 v.num, .int .i64 v.next, .bool v.dead]] w fun e w' => e = .returned (.int .i64 57) ∧ Keeps (fun _ => False) w w' := by
  have HC := isC_iff.1 hC
  obtain ⟨w0, hw0⟩ : ∃ x, x = w.alloc (.cells #[.int .i64 v.num, .int .i64 v.next, .bool v.dead] 37) := ⟨_, rfl⟩
  have k0 : Keeps (fun _ => False) w w0 := by rw [hw0]; exact (Keeps.refl _ w).alloc _
  have h := h.new k0
  obtain ⟨a3, cp3, f3, hx3⟩ := h.l3
  obtain ⟨g3, rfl, _, x0, x1, x2⟩ := hx3 i hi
  have hoI : (i : Int) < (s.locs.length : Int) := by omega
  have ho0 : (0 : Int) ≤ (i : Int) := by omega
  have hc2 := rloc_any h (i : Int)
  rw [inn_ok hi] at hc2
  have his := ris_any h hg (f.lo i hi).2.2 (f.at_ _ (f.lo i hi).2.2).1 hl
  obtain ⟨vv, hvv⟩ : ∃ x, x = m.val (s.att (s.lo i).owner).status := ⟨_, rfl⟩
  rw [← hvv] at his HC
  obtain ⟨ow, how⟩ : ∃ x, x = (s.lo i).owner := ⟨_, rfl⟩
  rw [← how] at his x0 ho
  obtain ⟨n3, hn3⟩ : ∃ x, x = s.locs.length := ⟨_, rfl⟩
  rw [← hn3] at f3 hoI
  have o1 : ((ow : Int) == 0) = false := by simp [ho]
  have o2 : decide ((ow : Int) = 0) = false := by simp [ho]
  have o3 : decide (ow = 0) = false := by simp [ho]
  have v1 : (vv == 2) = true := by simpa using HC
  have HW0 : Hid (w0 = w.alloc (.cells #[.int .i64 v.num, .int .i64 v.next, .bool v.dead] 37)) := hw0
  clear hw0
  clear h hi ho hC f hvv how hn3 hx3 HC
  go_enter Tryz.func70, Tryz.ntmps70
  refine wp_seq_k (fun KK hKK => ?_)
  have hKH : Hid _ := hKK
  clear hKK
  go_wp2_with fail
  refine hKH.out _ _ ?_
  clear hKH KK
  rw [← HW0.out]
  clear HW0
  go_wp2_with (first | (go_at_call 94; refine hc2.mono ?_; clear hc2; rintro e w' ⟨rfl, rfl⟩) | (go_at_call 97; refine his.mono ?_; clear his; rintro e w4 ⟨rfl, K4⟩))
  go_ret
  exact ⟨rfl, k0.trans K4⟩
set_option maxHeartbeats 1600000 in
set_option maxRecDepth 1000000 in
theorem rAcq_obj (h : DW w qb rb sv σ B s m) {o : Int} (hi : inn 0 s.objs.length o = false) (x y : Int) : Calls Tryz.prog 73 #[.pointer (some ⟨qb, 0, none⟩), .int .i64 o, .int .i64 x, .int .i64 y] w fun e w' => e = .returned (.tuple #[.bool false, .int .i64 50]) ∧ Keeps (fun _ => False) w w' := by
  have hc1 := robj_any h o
  rw [hi] at hc1
  clear h hi
  go_enter Tryz.func73, Tryz.ntmps73
  go_wp2_with (go_at_call 82; refine hc1.mono ?_; clear hc1; rintro e w' ⟨rfl, rfl⟩)
  go_ret2
  exact ⟨rfl, Keeps.refl _ _⟩
set_option maxHeartbeats 1600000 in
set_option maxRecDepth 1000000 in
theorem rAcq_loc (h : DW w qb rb sv σ B s m) {o : Nat} (hi : o < s.objs.length) {x y : Int} {bx by_ : Bool} (hx : inn 0 s.locs.length x = bx) (hy : inn 0 s.locs.length y = by_) (hb : bx = false ∨ by_ = false) : Calls Tryz.prog 73 #[.pointer (some ⟨qb, 0, none⟩), .int .i64 (o : Int), .int .i64 x, .int .i64 y] w fun e w' => e = .returned (.tuple #[.bool false, .int .i64 52]) ∧ Keeps (fun _ => False) w w' := by
  have hc1 := robj_any h (o : Int)
  rw [inn_ok hi] at hc1
  have hc2 := rloc_any h x
  have hc3 := rloc_any h y
  rw [hx] at hc2
  rw [hy] at hc3
  clear h hi hx hy
  cases bx <;> cases by_
  all_goals (try (exact absurd hb (by decide)))
  all_goals
    go_enter Tryz.func73, Tryz.ntmps73
    go_wp2_with (first | (go_at_call 82; refine hc1.mono ?_; clear hc1; rintro e w' ⟨rfl, rfl⟩) | (go_at_call 94; refine hc2.mono ?_; clear hc2; rintro e w' ⟨rfl, rfl⟩) | (go_at_call 94; refine hc3.mono ?_; clear hc3; rintro e w' ⟨rfl, rfl⟩))
    go_ret2
    exact ⟨rfl, Keeps.refl _ _⟩
set_option maxHeartbeats 1600000 in
set_option maxRecDepth 1000000 in
theorem rAcq_used (h : DW w qb rb sv σ B s m) {o : Nat} (hi : o < s.objs.length) {x : Nat} (hx : x < s.locs.length) {y : Nat} (hy : y < s.locs.length) (hU : (s.lo y).used = true) : Calls Tryz.prog 73 #[.pointer (some ⟨qb, 0, none⟩), .int .i64 (o : Int), .int .i64 (x : Int), .int .i64 (y : Int)] w fun e w' => e = .returned (.tuple #[.bool false, .int .i64 55]) ∧ Keeps (fun _ => False) w w' := by
  have hc1 := robj_any h (o : Int)
  rw [inn_ok hi] at hc1
  have hc2 := rloc_any h (x : Int)
  rw [inn_ok hx] at hc2
  have hc3 := rloc_any h (y : Int)
  rw [inn_ok hy] at hc3
  obtain ⟨a4, cp4, f4, hx4⟩ := h.l4
  obtain ⟨g4, rfl, nb4, y0, zy⟩ := hx4 y hy
  have hyI : (y : Int) < (s.locs.length : Int) := by omega
  have hy0 : (0 : Int) ≤ (y : Int) := by omega
  rw [hU] at y0
  obtain ⟨n3, hn3⟩ : ∃ x, x = s.locs.length := ⟨_, rfl⟩
  rw [← hn3] at f4 hyI
  clear h hi hx hy hU hn3 hx4
  go_enter Tryz.func73, Tryz.ntmps73
  go_wp2_with (first | (go_at_call 82; refine hc1.mono ?_; clear hc1; rintro e w' ⟨rfl, rfl⟩) | (go_at_call 94; refine hc2.mono ?_; clear hc2; rintro e w' ⟨rfl, rfl⟩) | (go_at_call 94; refine hc3.mono ?_; clear hc3; rintro e w' ⟨rfl, rfl⟩))
  go_ret2
  exact ⟨rfl, Keeps.refl _ _⟩
set_option maxHeartbeats 1600000 in
set_option maxRecDepth 1000000 in
theorem rAcq_done (h : DW w qb rb sv σ B s m) (hg : m.fit) (hl : m.log.length ≤ 4611686018427387903) (f : Wf s m) {o : Nat} (hi : o < s.objs.length) {x : Nat} (hx : x < s.locs.length) {y : Nat} (hy : y < s.locs.length) (hU : (s.lo y).used = false) (hC : s.isC m (s.lo y).owner = true) : Calls Tryz.prog 73 #[.pointer (some ⟨qb, 0, none⟩), .int .i64 (o : Int), .int .i64 (x : Int), .int .i64 (y : Int)] w fun e w' => e = .returned (.tuple #[.bool false, .int .i64 57]) ∧ Keeps (fun _ => False) w w' := by
  have HC := isC_iff.1 hC
  have hc1 := robj_any h (o : Int)
  rw [inn_ok hi] at hc1
  have hc2 := rloc_any h (x : Int)
  rw [inn_ok hx] at hc2
  have hc3 := rloc_any h (y : Int)
  rw [inn_ok hy] at hc3
  obtain ⟨a4, cp4, f4, hx4⟩ := h.l4
  obtain ⟨g4, rfl, nb4, y0, zy⟩ := hx4 y hy
  have hyI : (y : Int) < (s.locs.length : Int) := by omega
  have hy0 : (0 : Int) ≤ (y : Int) := by omega
  rw [hU] at y0
  obtain ⟨a3, cp3, f3, hx3⟩ := h.l3
  obtain ⟨g3, rfl, _, x0, x1, x2⟩ := hx3 y hy
  have his := ris_any h hg (f.lo y hy).2.2 (f.at_ _ (f.lo y hy).2.2).1 hl
  obtain ⟨vv, hvv⟩ : ∃ x, x = m.val (s.att (s.lo y).owner).status := ⟨_, rfl⟩
  rw [← hvv] at his HC
  obtain ⟨ow, how⟩ : ∃ x, x = (s.lo y).owner := ⟨_, rfl⟩
  rw [← how] at his x0
  obtain ⟨n3, hn3⟩ : ∃ x, x = s.locs.length := ⟨_, rfl⟩
  rw [← hn3] at f4 f3 hyI
  have v1 : (vv == 2) = true := by simpa using HC
  clear h hi hx hy hU hC f hvv how hn3 hx3 hx4 HC
  go_enter Tryz.func73, Tryz.ntmps73
  go_wp2_with (first | (go_at_call 82; refine hc1.mono ?_; clear hc1; rintro e w' ⟨rfl, rfl⟩) | (go_at_call 94; refine hc2.mono ?_; clear hc2; rintro e w' ⟨rfl, rfl⟩) | (go_at_call 94; refine hc3.mono ?_; clear hc3; rintro e w' ⟨rfl, rfl⟩) | (go_at_call 97; refine his.mono ?_; clear his; rintro e w4 ⟨rfl, K4⟩))
  go_ret2
  exact ⟨rfl, K4⟩
end
end Go.Proofs.YtaikngpgmcpecaaGreat
namespace Go.Proofs.YtaikngpgmcpecaaGreat
open Go.RowKit
section
variable {w w' : World} {qb rb : Nat} {sv : Nat → Value} {σ : Nat → Nat} {B D : Nat → Prop} {s : Ws} {m : Mm}
theorem dsw_use {i : Nat} {b : Bool} (hi : i < s.locs.length) : dsw (s.use i b) = uf (dsw s) 4 ⟨4, 1, s.locs.length, (fl lu s.locs).set i (.bool b)⟩ := by
  have e3 : fl Go.Proofs.YtaikngpgmcpecaaGreat.l3 (s.locs.set i { s.lo i with used := b }) = fl Go.Proofs.YtaikngpgmcpecaaGreat.l3 s.locs := by
    have hx := fl_set l3_len s.locs i 0 (s.lo i) { s.lo i with used := b } (.int .i64 ((s.lo i).owner : Int)) (getD_get hi) (by omega) rfl
    rw [hx]
    apply List.ext_getElem?
    intro k
    rw [List.getElem?_set]
    split
    · rename_i e
      subst e
      have hk := fl_get l3_len s.locs i 0 (by omega)
      rw [getD_get (d := lo0) hi] at hk
      have hk : (fl Go.Proofs.YtaikngpgmcpecaaGreat.l3 s.locs)[i * 3 + 0]? = some (.int .i64 ((s.lo i).owner : Int)) := hk
      rw [hk, if_pos (List.getElem?_eq_some_iff.1 hk).1]
    · rfl
  have e4 : fl lu (s.locs.set i { s.lo i with used := b }) = (fl lu s.locs).set i (.bool b) := by
    have hx := fl_set lu_len s.locs i 0 (s.lo i) { s.lo i with used := b } (.bool b) (getD_get hi) (by omega) rfl
    rw [hx, show i * 1 + 0 = i by omega]
  funext o
  unfold uf
  by_cases e : o = 4
  · subst e
    simp [dsw, Ws.use, e4]
  · rw [if_neg e]
    unfold dsw
    by_cases e1 : o = 1
    · rw [if_pos e1, if_pos e1]; rfl
    · rw [if_neg e1, if_neg e1]
      by_cases e2 : o = 2
      · rw [if_pos e2, if_pos e2]; rfl
      · rw [if_neg e2, if_neg e2]
        by_cases e5 : o = 3
        · rw [if_pos e5, if_pos e5]
          simp [Ws.use, e3]
        · rw [if_neg e5, if_neg e5, if_neg e, if_neg e]; rfl
/-- Cells of a list of the world's are written. -/
theorem DW.put {s' : Ws} (h : DW w qb rb sv σ B s m) {o : Nat} (o1 : 1 ≤ o) (o2 : o ≤ 5) {g : Nat} (hg : (sv o).ownBlock = some g) (K : Keeps (fun k => k = g) w w') {xs : List Value} (ho : w'.ownsRow 0 (dsw s o).ty (dsw s o).sz (sv o) (dsw s o).n xs) (hd : dsw s' = uf (dsw s) o ⟨(dsw s o).ty, (dsw s o).sz, (dsw s o).n, xs⟩) :
    DI w' qb rb s' m (fun k => DB qb sv k ∨ B k) ∧ LeftP w w' (fun k => DB qb sv k ∨ B k) (fun k => DB qb sv k ∨ B k) := by
  obtain ⟨d', l'⟩ := h.ds.put o1 o2 hg K ho
  rw [← hd] at d'
  have rg := h.ds.ps o g o1 o2 hg
  have nq : ¬ qb = g := fun e => by rw [← e, h.ds.pq] at rg; omega
  exact ⟨⟨sv, σ, B, ⟨K.cell h.f0 nq, d', h.ri.keep K (fun i hi e => h.ap i (.inr ⟨o, o1, o2, by rw [e]; exact hg⟩) hi), h.ap⟩, rfl⟩, l'.keeps.mono (fun _ _ e => .inl e), fun k e => .inl e⟩
set_option maxHeartbeats 1600000 in
set_option maxRecDepth 1000000 in
theorem rPut_ok (h : DI w qb rb s m D) (hg : m.fit) (hl : m.log.length ≤ 4611686018427387903) (f : Wf s m) {i : Nat} (hi : i < s.locs.length) (ho : (s.lo i).owner ≠ 0) (hC : s.isC m (s.lo i).owner = false) (v : Vl) : Calls Tryz.prog 70 #[.pointer (some ⟨qb, 0, none⟩), .int .i64 (i : Int), .agg #[.int .i64 v.num, .int .i64 v.next, .bool v.dead]] w fun e w' => e = .returned (.int .i64 0) ∧ ∃ D', DI w' qb rb (s.put i v) m D' ∧ LeftP w w' D D' := by
  obtain ⟨sv, σ, B, h, rfl⟩ := h
  have HC := isC_not.1 hC
  have hvi : i < s.vals.length := by rw [f.vl]; exact hi
  obtain ⟨w0, hw0⟩ : ∃ x, x = w.alloc (.cells #[.int .i64 v.num, .int .i64 v.next, .bool v.dead] 37) := ⟨_, rfl⟩
  have k0 : Keeps (fun _ => False) w w0 := by rw [hw0]; exact (Keeps.refl _ w).alloc _
  have b0 : w0.cell? ⟨w.heap.size, 0, none⟩ = some (.int .i64 v.num) := by rw [hw0]; simp
  have b1 : w0.cell? ⟨w.heap.size, 1, none⟩ = some (.int .i64 v.next) := by rw [hw0]; simp
  have b2 : w0.cell? ⟨w.heap.size, 2, none⟩ = some (.bool v.dead) := by rw [hw0]; simp
  have HW := h
  have h := h.new k0
  obtain ⟨a3, cp3, f3, hx3⟩ := h.l3
  obtain ⟨g3, rfl, _, x0, x1, x2⟩ := hx3 i hi
  have hoI : (i : Int) < (s.locs.length : Int) := by omega
  have ho0 : (0 : Int) ≤ (i : Int) := by omega
  have hc2 := rloc_any h (i : Int)
  rw [inn_ok hi] at hc2
  rw [(f.lo i hi).1] at x2
  have his := ris_any h hg (f.lo i hi).2.2 (f.at_ _ (f.lo i hi).2.2).1 hl
  obtain ⟨vv, hvv⟩ : ∃ x, x = m.val (s.att (s.lo i).owner).status := ⟨_, rfl⟩
  rw [← hvv] at his HC
  obtain ⟨ow, how⟩ : ∃ x, x = (s.lo i).owner := ⟨_, rfl⟩
  rw [← how] at his x0 ho
  have o1 : ((ow : Int) == 0) = false := by simp [ho]
  have o2 : decide ((ow : Int) = 0) = false := by simp [ho]
  have o3 : decide (ow = 0) = false := by simp [ho]
  have v1 : (vv == 2) = false := by simpa using HC
  obtain ⟨a5, cp5, f5, hx5⟩ := h.l5
  obtain ⟨g5, rfl, ⟨nb5, nq5⟩, u0, u1, u2, uz⟩ := hx5 i hvi
  have e5 : sv 5 = .slice (some ⟨g5, 0, none⟩) s.vals.length cp5 := Option.some.inj ((h.ds.fs 5 (by omega) (by omega)).symm.trans f5)
  have e3 : sv 3 = .slice (some ⟨g3, 0, none⟩) s.locs.length cp3 := Option.some.inj ((h.ds.fs 3 (by omega) (by omega)).symm.trans f3)
  have r5 := h.ds.ps 5 g5 (by omega) (by omega) (by rw [e5]; rfl)
  have r3 := h.ds.ps 3 g3 (by omega) (by omega) (by rw [e3]; rfl)
  have n35 : ¬ g3 = g5 := fun e => by rw [e, r5] at r3; omega
  have l5 : g5 < w.heap.size := by
    have := HW.ds.lt (k := g5) (.inr ⟨5, by omega, by omega, by rw [e5]; rfl⟩)
    exact this
  have nw5 : ¬ w.heap.size = g5 := by omega
  have nq5' : ¬ qb = g5 := fun e => nq5 e.symm
  have z0 := uz 0 (by omega)
  have z1 := uz 1 (by omega)
  have z2 := uz 2 (by omega)
  rw [Nat.add_zero] at z0
  have hiV : (i : Int) < (s.vals.length : Int) := by omega
  have H4 : Hid (DW w0 qb rb sv σ B s m) := h
  have HW0 : Hid (w0 = w.alloc (.cells #[.int .i64 v.num, .int .i64 v.next, .bool v.dead] 37)) := hw0
  have HE5 : Hid (sv 5 = .slice (some ⟨g5, 0, none⟩) s.vals.length cp5) := e5
  have HVI : Hid (i < s.vals.length) := hvi
  obtain ⟨n3, hn3⟩ : ∃ x, x = s.locs.length := ⟨_, rfl⟩
  rw [← hn3] at f3 hoI
  obtain ⟨n5, hn5⟩ : ∃ x, x = s.vals.length := ⟨_, rfl⟩
  rw [← hn5] at f5 hiV
  have hlt5 : g5 < w0.heap.size := World.block_lt_of_cell? _ _ u0
  clear hw0 h hi ho hC f hvv how hn3 hn5 hx3 hx5 HC e5 e3 r5 r3 uz hvi HW l5
  go_enter Tryz.func70, Tryz.ntmps70
  refine wp_seq_k (fun KK hKK => ?_)
  have hKH : Hid _ := hKK
  clear hKK
  go_wp2_with fail
  refine hKH.out _ _ ?_
  clear hKH KK
  rw [← HW0.out]
  clear HW0
  go_wp2_with (first | (go_at_call 94; refine hc2.mono ?_; clear hc2; rintro e w' ⟨rfl, rfl⟩) | (go_at_call 97; refine his.mono ?_; clear his; rintro e w4 ⟨rfl, K4⟩; have f3 := K4.cell f3 id; have f5 := K4.cell f5 id; have x2 := K4.cell x2 id; have u0 := K4.cell u0 id; have u1 := K4.cell u1 id; have u2 := K4.cell u2 id; have b0 := K4.cell b0 id; have b1 := K4.cell b1 id; have b2 := K4.cell b2 id; have z0 := (K4.frozen (p := ⟨g5, i * 3, none⟩) hlt5 id).trans z0; have z1 := (K4.frozen (p := ⟨g5, i * 3 + 1, none⟩) hlt5 id).trans z1; have z2 := (K4.frozen (p := ⟨g5, i * 3 + 2, none⟩) hlt5 id).trans z2))
  have KS : Keeps (fun k => k = g5) w4 (sev3 w4 g5 (i * 3) v).drew := (((keeps_set w4 g5 (i * 3) _).trans (keeps_set _ g5 (i * 3 + 1) _)).trans (keeps_set _ g5 (i * 3 + 2) _)).drew
  have HKZ : Hid ((sev3 w4 g5 (i * 3) v).drew.cell? ⟨qb, 5, none⟩ = some (.slice (some ⟨g5, 0, none⟩) n5 cp5) ∧ (sev3 w4 g5 (i * 3) v).drew.cell? ⟨qb, 3, none⟩ = some (.slice (some ⟨g3, 0, none⟩) n3 cp3) ∧ (sev3 w4 g5 (i * 3) v).drew.cell? ⟨g3, i * 3 + 2, none⟩ = some (.int .i64 (i : Int)) ∧ (sev3 w4 g5 (i * 3) v).drew.cell? ⟨w.heap.size, 0, none⟩ = some (.int .i64 v.num) ∧ (sev3 w4 g5 (i * 3) v).drew.cell? ⟨w.heap.size, 1, none⟩ = some (.int .i64 v.next) ∧ (sev3 w4 g5 (i * 3) v).drew.cell? ⟨w.heap.size, 2, none⟩ = some (.bool v.dead)) := ⟨KS.cell f5 nq5', KS.cell f3 nq5', KS.cell x2 n35, KS.cell b0 nw5, KS.cell b1 nw5, KS.cell b2 nw5⟩
  have HKS : Hid (Keeps (fun k => k = g5) w4 (sev3 w4 g5 (i * 3) v).drew) := KS
  clear KS
  go_region_held3 (fun w' => w'.cell? ⟨qb, 5, none⟩ = some (.slice (some ⟨g5, 0, none⟩) n5 cp5) ∧ w'.cell? ⟨qb, 3, none⟩ = some (.slice (some ⟨g3, 0, none⟩) n3 cp3) ∧ w'.cell? ⟨g3, i * 3 + 2, none⟩ = some (.int .i64 (i : Int)) ∧ w'.cell? ⟨w.heap.size, 0, none⟩ = some (.int .i64 v.num) ∧ w'.cell? ⟨w.heap.size, 1, none⟩ = some (.int .i64 v.next) ∧ w'.cell? ⟨w.heap.size, 2, none⟩ = some (.bool v.dead)) (first | (go_keep; done) | exact HKZ.out) (fail)
  have h4 := H4.out.new K4
  have own5 := h4.ds.ow 5 (by omega) (by omega)
  have e5 := HE5.out
  rw [e5] at own5
  have own5 : w4.ownsRow 0 37 3 (.slice (some ⟨g5, 0, none⟩) s.vals.length cp5) s.vals.length (fl vc3 s.vals) := own5
  have own6 := (stw3 own5 HVI.out v).1
  have hp := h4.put (s' := s.put i v) (o := 5) (by omega) (by omega) (g := g5) (by rw [e5]; rfl) (w' := (sev3 w4 g5 (i * 3) v).drew) HKS.out (xs := fl vc3 (s.vals.set i v)) (by rw [e5]; exact ((Keeps.refl (fun _ => False) _).drew).owns own6 (fun _ _ e => e)) (by rw [dsw_put]; rfl)
  have HP : Hid _ := hp
  have K04 := k0.trans K4
  clear h4 own5 e5 own6 hp HKS HKZ
  go_wp2_with fail
  go_ret
  exact ⟨rfl, _, HP.out.1, (LeftP.new K04).trans HP.out.2⟩
end
end Go.Proofs.YtaikngpgmcpecaaGreat
namespace Go.Proofs.YtaikngpgmcpecaaGreat
open Go.RowKit
section
variable {w w' : World} {qb rb : Nat} {sv : Nat → Value} {σ : Nat → Nat} {B D : Nat → Prop} {s : Ws} {m : Mm}
set_option maxHeartbeats 1600000 in
set_option maxRecDepth 1000000 in
theorem rAcq_closed (h : DW w qb rb sv σ B s m) (hg : m.fit) (hl : m.log.length ≤ 4611686018427387903) (f : Wf s m) {o : Nat} (hi : o < s.objs.length) {x : Nat} (hx : x < s.locs.length) {y : Nat} (hy : y < s.locs.length) (hU : (s.lo y).used = false) (hC : s.isC m (s.lo y).owner = false) (hf : m.free = false) : Calls Tryz.prog 73 #[.pointer (some ⟨qb, 0, none⟩), .int .i64 (o : Int), .int .i64 (x : Int), .int .i64 (y : Int)] w fun e w' => e = .returned (.tuple #[.bool false, .int .i64 31]) ∧ Keeps (fun _ => False) w w' := by
  have HC := isC_not.1 hC
  have hm := fun W (K : Keeps (fun _ => False) w W) => rswap_closed (h.ri.new K) (there_ok (f.ob o hi).1) hf (x : Int) (y : Int)
  have hc1 := robj_any h (o : Int)
  rw [inn_ok hi] at hc1
  have hc2 := rloc_any h (x : Int)
  rw [inn_ok hx] at hc2
  have hc3 := rloc_any h (y : Int)
  rw [inn_ok hy] at hc3
  obtain ⟨a4, cp4, f4, hx4⟩ := h.l4
  obtain ⟨g4, rfl, nb4, y0, zy⟩ := hx4 y hy
  have hyI : (y : Int) < (s.locs.length : Int) := by omega
  have hy0 : (0 : Int) ≤ (y : Int) := by omega
  rw [hU] at y0
  obtain ⟨a3, cp3, f3, hx3⟩ := h.l3
  obtain ⟨g3, rfl, _, x0, x1, x2⟩ := hx3 y hy
  have his := ris_any h hg (f.lo y hy).2.2 (f.at_ _ (f.lo y hy).2.2).1 hl
  obtain ⟨vv, hvv⟩ : ∃ x, x = m.val (s.att (s.lo y).owner).status := ⟨_, rfl⟩
  rw [← hvv] at his HC
  obtain ⟨ow, how⟩ : ∃ x, x = (s.lo y).owner := ⟨_, rfl⟩
  rw [← how] at his x0
  obtain ⟨n3, hn3⟩ : ∃ x, x = s.locs.length := ⟨_, rfl⟩
  rw [← hn3] at f4 f3 hyI
  obtain ⟨a1, cp1, f1, hx1⟩ := h.l1
  obtain ⟨g1, rfl, ⟨nb1, nq1⟩, p0⟩ := hx1 o hi
  have f0 := h.f0
  have nb0 := h.ap qb (.inl rfl)
  have hoI : (o : Int) < (s.objs.length : Int) := by omega
  have ho0 : (0 : Int) ≤ (o : Int) := by omega
  obtain ⟨n1, hn1⟩ : ∃ x, x = s.objs.length := ⟨_, rfl⟩
  rw [← hn1] at f1 hoI
  have v1 : (vv == 2) = false := by simpa using HC
  obtain ⟨cc, hcc⟩ : ∃ x, x = s.ob o := ⟨_, rfl⟩
  rw [← hcc] at p0 hm
  clear h hi hx hy hU hC f hvv how hn3 hn1 hcc hx1 hx3 hx4 HC
  go_enter Tryz.func73, Tryz.ntmps73
  go_wp2_with (first | (go_at_call 82; refine hc1.mono ?_; clear hc1; rintro e w' ⟨rfl, rfl⟩) | (go_at_call 94; refine hc2.mono ?_; clear hc2; rintro e w' ⟨rfl, rfl⟩) | (go_at_call 94; refine hc3.mono ?_; clear hc3; rintro e w' ⟨rfl, rfl⟩) | (go_at_call 97; refine his.mono ?_; clear his; rintro e w4 ⟨rfl, K4⟩; have f0 := K4.cell f0 id; have f1 := K4.cell f1 id; have p0 := K4.cell p0 id))
  go_region_held3 (fun w' => w'.cell? ⟨qb, 0, none⟩ = some (.pointer (some ⟨rb, 0, none⟩)) ∧ w'.cell? ⟨qb, 1, none⟩ = some (.slice (some ⟨g1, 0, none⟩) n1 cp1) ∧ w'.cell? ⟨g1, o, none⟩ = some (.int .i64 (cc : Int))) (go_keep) ((go_at_call 98; (with_reducible refine (hm _ (K4.drew)).mono ?_); rintro e w5 ⟨rfl, K5⟩; have q0 := K5.cell (p := ⟨qb, 0, none⟩) (v := .pointer (some ⟨rb, 0, none⟩)) (by simpa using f0) id; have q1 := K5.cell (p := ⟨qb, 1, none⟩) (v := .slice (some ⟨g1, 0, none⟩) n1 cp1) (by simpa using f1) id; have q2 := K5.cell (p := ⟨g1, o, none⟩) (v := .int .i64 (cc : Int)) (by simpa using p0) id))
  go_wp2_with fail
  go_ret2
  exact ⟨rfl, (K4.drew).trans K5⟩
set_option maxHeartbeats 1600000 in
set_option maxRecDepth 1000000 in
theorem rAcq_ok (h : DI w qb rb s m D) (hg : m.fit) (hl : m.log.length ≤ 4611686018427387903) (f : Wf s m) {o : Nat} (hi : o < s.objs.length) {x : Nat} (hx : x < s.locs.length) {y : Nat} (hy : y < s.locs.length) (hU : (s.lo y).used = false) (hC : s.isC m (s.lo y).owner = false) (hf : m.free = true) (hlog : (m.log.length + 1) * 56 ≤ 140737488355328) : Calls Tryz.prog 73 #[.pointer (some ⟨qb, 0, none⟩), .int .i64 (o : Int), .int .i64 (x : Int), .int .i64 (y : Int)] w fun e w' => e = .returned (.tuple #[.bool (decide ((ca m.cells (s.ob o)).2 = (x : Int))), .int .i64 0]) ∧ ∃ D', DI w' qb rb (s.use y (decide ((ca m.cells (s.ob o)).2 = (x : Int)))) (m.swap (s.ob o) (x : Int) (y : Int)) D' ∧ LeftP w w' D D' := by
  obtain ⟨sv, σ, B, h, rfl⟩ := h
  have HC := isC_not.1 hC
  have hm := fun W (K : Keeps (fun _ => False) w W) => rswap_fit (h.ri.new K) hg (f.ob o hi).1 hf hlog (x : Int) (y : Int)
  have hc1 := robj_any h (o : Int)
  rw [inn_ok hi] at hc1
  have hc2 := rloc_any h (x : Int)
  rw [inn_ok hx] at hc2
  have hc3 := rloc_any h (y : Int)
  rw [inn_ok hy] at hc3
  obtain ⟨a4, cp4, f4, hx4⟩ := h.l4
  obtain ⟨g4, rfl, nb4, y0, zy⟩ := hx4 y hy
  have hyI : (y : Int) < (s.locs.length : Int) := by omega
  have hy0 : (0 : Int) ≤ (y : Int) := by omega
  rw [hU] at y0
  obtain ⟨a3, cp3, f3, hx3⟩ := h.l3
  obtain ⟨g3, rfl, _, x0, x1, x2⟩ := hx3 y hy
  have his := ris_any h hg (f.lo y hy).2.2 (f.at_ _ (f.lo y hy).2.2).1 hl
  obtain ⟨vv, hvv⟩ : ∃ x, x = m.val (s.att (s.lo y).owner).status := ⟨_, rfl⟩
  rw [← hvv] at his HC
  obtain ⟨ow, how⟩ : ∃ x, x = (s.lo y).owner := ⟨_, rfl⟩
  rw [← how] at his x0
  obtain ⟨n3, hn3⟩ : ∃ x, x = s.locs.length := ⟨_, rfl⟩
  rw [← hn3] at f4 f3 hyI
  obtain ⟨a1, cp1, f1, hx1⟩ := h.l1
  obtain ⟨g1, rfl, ⟨nb1, nq1⟩, p0⟩ := hx1 o hi
  have f0 := h.f0
  have nb0 := h.ap qb (.inl rfl)
  have hoI : (o : Int) < (s.objs.length : Int) := by omega
  have ho0 : (0 : Int) ≤ (o : Int) := by omega
  obtain ⟨n1, hn1⟩ : ∃ x, x = s.objs.length := ⟨_, rfl⟩
  rw [← hn1] at f1 hoI
  have v1 : (vv == 2) = false := by simpa using HC
  have e4 : sv 4 = .slice (some ⟨g4, 0, none⟩) s.locs.length cp4 := by
    rw [hn3] at f4
    exact Option.some.inj ((h.ds.fs 4 (by omega) (by omega)).symm.trans f4)
  have HE4 : Hid (sv 4 = .slice (some ⟨g4, 0, none⟩) s.locs.length cp4) := e4
  have HN3 : Hid (n3 = s.locs.length) := hn3
  have HY : Hid (y < s.locs.length) := hy
  have HU : Hid ((s.lo y).used = false) := hU
  have H0 : Hid (DW w qb rb sv σ B s m) := h
  have lq : qb < w.heap.size := h.ds.ltb
  have lg4 : g4 < w.heap.size := World.block_lt_of_cell? _ _ y0
  obtain ⟨cc, hcc⟩ : ∃ x, x = s.ob o := ⟨_, rfl⟩
  have HCC : Hid (cc = s.ob o) := hcc
  rw [← hcc] at p0 hm
  rw [← hcc]
  obtain ⟨dd, hdd⟩ : ∃ dd, dd = decide ((ca m.cells cc).2 = (x : Int)) := ⟨_, rfl⟩
  rw [← hdd] at hm
  rw [← hdd]
  clear h hi hx hy hU hC f hvv how hn3 hn1 hcc hdd hx1 hx3 hx4 HC e4
  go_enter Tryz.func73, Tryz.ntmps73
  go_wp2_with (first | (go_at_call 82; refine hc1.mono ?_; clear hc1; rintro e w' ⟨rfl, rfl⟩) | (go_at_call 94; refine hc2.mono ?_; clear hc2; rintro e w' ⟨rfl, rfl⟩) | (go_at_call 94; refine hc3.mono ?_; clear hc3; rintro e w' ⟨rfl, rfl⟩) | (go_at_call 97; refine his.mono ?_; clear his; rintro e w4 ⟨rfl, K4⟩; have f0 := K4.cell f0 id; have f1 := K4.cell f1 id; have p0 := K4.cell p0 id; have f4 := K4.cell f4 id; have y0 := K4.cell y0 id; have zy := (K4.frozen (p := ⟨g4, y, none⟩) lg4 id).trans zy))
  go_region_held3 (fun w' => w'.cell? ⟨qb, 0, none⟩ = some (.pointer (some ⟨rb, 0, none⟩)) ∧ w'.cell? ⟨qb, 1, none⟩ = some (.slice (some ⟨g1, 0, none⟩) n1 cp1) ∧ w'.cell? ⟨g1, o, none⟩ = some (.int .i64 (cc : Int))) (go_keep) ((go_at_call 98; (with_reducible refine (hm _ (K4.drew)).mono ?_); rintro e w5 ⟨rfl, B', R5, L5⟩; have q0 := L5.keeps.cell (p := ⟨qb, 0, none⟩) (v := .pointer (some ⟨rb, 0, none⟩)) (by simpa using f0) nb0; have q1 := L5.keeps.cell (p := ⟨qb, 1, none⟩) (v := .slice (some ⟨g1, 0, none⟩) n1 cp1) (by simpa using f1) nb0; have q2 := L5.keeps.cell (p := ⟨g1, o, none⟩) (v := .int .i64 (cc : Int)) (by simpa using p0) nb1))
  have f45 := L5.keeps.cell (p := ⟨qb, 4, none⟩) (v := .slice (some ⟨g4, 0, none⟩) n3 cp4) (by simpa using f4) nb0
  have y05 := L5.keeps.cell (p := ⟨g4, y, none⟩) (v := .bool false) (by simpa using y0) nb4.1
  have zy5 := (L5.keeps.frozen (p := ⟨g4, y, none⟩) (by have := K4.size; simp; omega) nb4.1).trans (by simpa using zy)
  have h5 := (H0.out.new (K4.drew)).mem R5 L5
  have H5 : Hid (DW w5 qb rb sv σ B' s (m.swap cc (x : Int) (y : Int))) := h5
  have HL5 : Hid (LeftP w w5 (fun k => DB qb sv k ∨ B k) (fun k => DB qb sv k ∨ B' k)) := (LeftP.new (K4.drew)).trans (DW.left L5)
  clear h5 R5 L5 hm f0 f1 p0 q0 q1 q2 f3 x0 x1 x2 H0
  cases dd with
  | false =>
    have HS : Hid (s.use y false = s) := use_false HU.out
    go_wp2_with fail
    go_ret2
    exact ⟨rfl, _, by rw [HS.out]; exact ⟨sv, σ, B', H5.out, rfl⟩, HL5.out⟩
  | true =>
    have HP : Hid (DI (w5.setCell ⟨g4, y, none⟩ (.bool true)) qb rb (s.use y true) (m.swap cc (x : Int) (y : Int)) (fun k => DB qb sv k ∨ B' k) ∧ LeftP w5 (w5.setCell ⟨g4, y, none⟩ (.bool true)) (fun k => DB qb sv k ∨ B' k) (fun k => DB qb sv k ∨ B' k)) := by
      have e4 := HE4.out
      have own4 := H5.out.ds.ow 4 (by omega) (by omega)
      rw [e4] at own4
      have own4 : w5.ownsRow 0 4 1 (.slice (some ⟨g4, 0, none⟩) s.locs.length cp4) s.locs.length (fl lu s.locs) := own4
      exact H5.out.put (s' := s.use y true) (o := 4) (by omega) (by omega) (g := g4) (by rw [e4]; rfl) (keeps_set w5 g4 y (.bool true)) (xs := (fl lu s.locs).set y (.bool true)) (by rw [e4]; exact (own4.stored y (.bool true)).1) (by rw [dsw_use HY.out]; rfl)
    have hyI : (y : Int) < (n3 : Int) := hyI
    go_wp2_with fail
    go_ret2
    exact ⟨rfl, _, HP.out.1, HL5.out.trans HP.out.2⟩
end
end Go.Proofs.YtaikngpgmcpecaaGreat
