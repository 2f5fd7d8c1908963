import Derived.Test.YtekalkjghfghhacCelNil
import Derived.Test.YtekalkjghfghhacCelF
namespace Go.Proofs.Ytekalkjghfghhac
open Go.RowKit Go.Shelf
attribute [local go_sem] Oper.semAt_some

theorem pmake {w0 w : World} {R : Nat → Prop} {mb : Nat} {s : Mm} (h : MP w0 R w mb s) (x : Int) (hl : s.cells.length < 65536) :
    Calls Try.prog 12 #[.pointer (some ⟨mb, 0, none⟩), .int .i64 x] w fun e w' => e = .returned (.tuple #[.int .i64 s.cells.length, .int .i64 0]) ∧ MP w0 R w' mb (s.make x) ∧ KP w0 R w w' := by
  obtain ⟨F, h, hF, hk, hR⟩ := h
  refine (make_any h x hl).mono ?_
  rintro e w' ⟨rfl, F', h', l⟩
  exact ⟨rfl, MP.next h hF hk hR h' l⟩
theorem psize {w0 w : World} {R : Nat → Prop} {mb : Nat} {s : Mm} (h : MP w0 R w mb s) :
    Calls Try.prog 14 #[.pointer (some ⟨mb, 0, none⟩)] w fun e w' => e = .returned (.int .i64 s.cells.length) ∧ w' = w := by
  obtain ⟨F, h, _⟩ := h
  exact size_any h
theorem pload_closed {w0 w : World} {R : Nat → Prop} {mb : Nat} {s : Mm} (h : MP w0 R w mb s) {c : Int} (hc : s.there c = true) (hf : s.free = false) :
    Calls Try.prog 15 #[.pointer (some ⟨mb, 0, none⟩), .int .i64 c] w fun e w' => e = .returned (.tuple #[.int .i64 0, .int .i64 31]) ∧ MP w0 R w' mb s ∧ KP w0 R w w' := by
  have hn := h
  obtain ⟨F, h, _⟩ := h
  refine (load_closed h hc hf).mono ?_
  rintro e w' ⟨rfl, k⟩
  exact ⟨rfl, hn.new k, KP.new k⟩
theorem plog {w0 w : World} {R : Nat → Prop} {mb : Nat} {s : Mm} (h : MP w0 R w mb s) (hlog : s.log.length * 56 ≤ 140737488355328) :
    Calls Try.prog 11 #[.pointer (some ⟨mb, 0, none⟩)] w fun e w' => ∃ a cap, e = .returned (.slice a s.log.length cap) ∧ MP w0 R w' mb s ∧ Keeps (fun _ => False) w w' := by
  have hn := h
  obtain ⟨F, h, _⟩ := h
  refine (log_any h hlog).mono ?_
  rintro e w' ⟨v, rfl, ho, k⟩
  rcases ho.2 with ⟨rfl, h0⟩ | ⟨g, cap, cur, rfl, _⟩
  · exact ⟨none, 0, by rw [h0], hn.new k, k⟩
  · exact ⟨_, _, rfl, hn.new k, k⟩

set_option maxHeartbeats 6400000 in
set_option maxRecDepth 1000000 in
theorem cellNone_walk (first : Int) (_ : I64 first) (c : Int) (_ : I64 c) (step : Int) (_ : I64 step) (w : World) :
    Calls Try.prog 4 #[.int .i64 first, .int .i64 c, .int .i64 step] w fun e w' => e = .returned (.bool true) ∧ Below w.heap.size w w' := by
  obtain ⟨w0, hw0⟩ : ∃ w0, w0 = (w.alloc (.cells #[.bool false] 4)).alloc (.cells #[.slice none 0 0, .slice none 0 0, .int .i64 0, .int .i64 0, .bool false, .bool false] 41) := ⟨_, rfl⟩
  have K0 : Keeps (fun _ => False) w w0 := by rw [hw0]; exact ((Keeps.refl _ w).alloc _).alloc _
  have s0 : w0.heap.size = w.heap.size + 2 := by rw [hw0]; simp
  have r0 : w0.cell? ⟨w.heap.size, 0, none⟩ = some (.bool false) := by rw [hw0]; exact ((Keeps.refl (fun _ => False) (w.alloc (.cells #[.bool false] 4))).alloc _).cell (by simp) (fun e => e)
  have z0 : w0.frozen? ⟨w.heap.size, 0, none⟩ = false := by
    rw [hw0, ((Keeps.refl (fun _ => False) (w.alloc (.cells #[.bool false] 4))).alloc _).frozen (p := ⟨w.heap.size, 0, none⟩) (by simp) (fun e => e)]; simp
  have M0 : MP w (fun k => k = w.heap.size) w0 (w.heap.size + 1) Mm.new := by
    refine ⟨[w.heap.size + 1], ⟨.slice none 0 0, .slice none 0 0, ?_, rfl⟩, fun k hk => ?_, K0, fun k hk => by omega⟩
    · rw [hw0]
      have e : (w.alloc (.cells #[.bool false] 4)).heap.size = w.heap.size + 1 := by simp
      rw [← e]
      exact ⟨by simp, by simp, by simp [Mm.new], by simp [Mm.new], by simp [Mm.new], by simp [Mm.new], fun o _ => by simp, World.ownsRow_nil _ _ _ _, World.ownsRow_nil _ _ _ _, by simp [Value.ownBlock], by simp [Value.ownBlock], by simp [Value.ownBlock]⟩
    · simp at hk; rw [hk]; exact ⟨by omega, by omega⟩
  refine callsIn_wide (n := 5).1 ?_
  refine callsIn_of_wp_marks Try.func4 rfl trivial ?_
  simp only [Try.ntmps4, List.size_toArray, List.length_cons, List.length_nil, Nat.reduceAdd, Nat.reduceSub, Array.replicate_succ, Array.replicate_zero, List.push_toArray, List.append_toArray, List.nil_append, List.cons_append]
  refine wpIn_wide.2 ?_
  go_wp2_with fail
  (try simp only [World.size_alloc])
  rw [← hw0]
  clear hw0
  refine (pmake M0 first (by simp [Mm.new])).mono ?_
  rintro e w1 ⟨rfl, M1, K1⟩
  rw [show ((Mm.new.cells.length : Nat) : Int) = 0 from rfl]
  have P1 := ppeek M1 (c := 0) (by show 0 < 1; decide)
  rw [show (ca (Mm.new.make first).cells 0).2 = first from rfl, show ((0 : Nat) : Int) = 0 from rfl] at P1
  have Z1 := psize M1
  rw [show (((Mm.new.make first).cells.length : Nat) : Int) = 1 from rfl] at Z1
  go_wp2_with (first | (go_at_call 7; refine (num_any _ _).mono ?_; rintro e w1 ⟨rfl, rfl⟩) | (go_at_call 13; refine P1.mono ?_; clear P1; rintro e w1 ⟨rfl, rfl⟩) | (go_at_call 14; refine Z1.mono ?_; clear Z1; rintro e w1 ⟨rfl, rfl⟩))
  refine (pload_closed M1 rfl rfl).mono ?_
  rintro e w2 ⟨rfl, M2, K2⟩
  have B2 := pbegin M2 0 0 rfl
  go_wp2_with (first | (go_at_call 7; refine (num_any _ _).mono ?_; rintro e w2 ⟨rfl, rfl⟩) | (go_at_call 8; refine B2.mono ?_; clear B2; rintro e w3 ⟨rfl, M3, K3⟩))
  have L3 := pload M3 (c := 0) (by show 0 < 1; decide) rfl (by show (0 + 1) * 56 ≤ 140737488355328; decide)
  rw [show (ca ((Mm.new.make first).begin 0 0).cells 0).2 = first from rfl, show ((0 : Nat) : Int) = 0 from rfl] at L3
  refine L3.mono ?_
  clear L3
  rintro e w4 ⟨rfl, M4, K4⟩
  have G4 := plog M4 (by show 1 * 56 ≤ 140737488355328; decide)
  rw [show (((Mm.new.make first).begin 0 0).take 1 0 first true).log.length = 1 from rfl] at G4
  go_wp2_with (first | (go_at_call 7; refine (num_any _ _).mono ?_; rintro e w4 ⟨rfl, rfl⟩) | (go_at_call 11; refine G4.mono ?_; clear G4; rintro e w5 ⟨a5, c5, rfl, M5, K5⟩))
  have r5 := K5.cell (K4.cell (K3.cell (K2.cell (K1.cell r0 rfl) rfl) rfl) rfl) (fun e => e)
  have z5 : w5.frozen? ⟨w.heap.size, 0, none⟩ = false := by
    rw [K5.frozen (p := ⟨w.heap.size, 0, none⟩) (M4.lt rfl) (fun e => e), K4.frozen (p := ⟨w.heap.size, 0, none⟩) (M3.lt rfl) rfl, K3.frozen (p := ⟨w.heap.size, 0, none⟩) (M2.lt rfl) rfl, K2.frozen (p := ⟨w.heap.size, 0, none⟩) (M1.lt rfl) rfl, K1.frozen (p := ⟨w.heap.size, 0, none⟩) (M0.lt rfl) rfl]
    exact z0
  have KW : Keeps (fun _ => False) w w5 := M5.keeps
  have l5 : w.heap.size < w5.heap.size := M5.lt rfl
  clear M0 M1 M2 M3 M4 M5 K0 K1 K2 K3 K4 K5 r0 z0 s0 w0
  have hfe : ∀ (k : Nat) (cp : Array Value) (W : World), (binOp .eql 47 (.func (.func k) #[] cp) .nilFunc).run Try.prog W = .ok (.bool false) W := fun k cp W => by kernel_rfl
  go_wp2_with (first | (go_at_call 7; refine (num_any _ _).mono ?_; rintro e w5 ⟨rfl, rfl⟩) | (go_at_call 12; refine (make_nil _ _).mono ?_; rintro e w5 ⟨rfl, rfl⟩) | (go_at_call 14; refine (size_nil _).mono ?_; rintro e w5 ⟨rfl, rfl⟩) | (go_at_call 8; refine (begin_nil _ _ _).mono ?_; rintro e w5 ⟨rfl, rfl⟩) | (go_at_call 11; refine (log_nil _).mono ?_; rintro e w6 ⟨rfl, K6⟩) | (go_at_call 16; refine (tail_any _ _ _).mono ?_; rintro e w7 ⟨rfl, hw7⟩))
  have K7 : Keeps (fun _ => False) w6 w7 := by rw [hw7]; exact ((Keeps.refl _ w6).alloc _).alloc _
  have c7 : w7.cell? ⟨w6.heap.size, 0, none⟩ = some (.pointer none) := by rw [hw7]; exact ((Keeps.refl (fun _ => False) (w6.alloc (.cells #[.pointer none] 23))).alloc _).cell (by simp) (fun e => e)
  have l7 : w.heap.size < w7.heap.size := Nat.lt_of_lt_of_le l5 (Nat.le_trans K6.size K7.size)
  have r7 := K7.cell (K6.cell r5 (fun e => e)) (fun e => e)
  have z7 : w7.frozen? ⟨w.heap.size, 0, none⟩ = false := by
    rw [K7.frozen (p := ⟨w.heap.size, 0, none⟩) (Nat.lt_of_lt_of_le l5 K6.size) (fun e => e), K6.frozen (p := ⟨w.heap.size, 0, none⟩) l5 (fun e => e)]; exact z5
  have KW7 := (KW.trans K6).trans K7
  rw [← hw7]
  clear hw7 r5 z5 KW K6 K7 l5 hfe
  refine wpIn_wide (n := 5).1 ?_
  refine wpIn_rangeFunc_ownH (α := NR) rfl (by omega) (gf := 36) (lb := #[.pointer (some ⟨w6.heap.size, 0, none⟩), .pointer (some ⟨w6.heap.size + 1, 0, none⟩)]) rfl trivial (enters_of Try.func36 (by kernel_rfl) rfl)
    (tail_stops_nil 4 w6.heap.size (w6.heap.size + 1) w7 c7) belowK_t (belowK_b (Nat.le_refl _)) (Below.refl _ _) (fun _ => rfl)
    (fun _ W => Below w7.heap.size w7 W)
    (fun _ _ _ => False)
    (ownFrom_below (Nat.le_refl _) (Nat.le_refl _))
    (fun _ _ _ _ _ hs _ _ => hs)
    (Below.refl _ _)
    (fun _ _ _ => True) (fun _ _ _ _ _ _ _ _ _ => trivial) ?assign ?body ?done ?stop
  case assign =>
    rintro l pre x W K hB hK
    gi_wp2
    exact hK _ _ (KeepsFrom.refl _ _) (Below.refl _ _) hB trivial
  case body =>
    intro l pre x a' W _ _ _ _ h
    omega
  case stop =>
    rintro D c pre W _ h _ _
    exact h.elim
  case done =>
    rintro D ys W hD rfl hB hK
    have K8 : Keeps (fun _ => False) w7 W := ⟨hB.os, hB.tape, hB.output, hB.size, fun k hk _ => hB.block k hk⟩
    have r8 := K8.cell r7 (fun e => e)
    have z8 := (K8.frozen (p := ⟨w.heap.size, 0, none⟩) l7 (fun e => e)).trans z7
    have KW8 := KW7.trans K8
    have l8 : w.heap.size < W.heap.size := Nat.lt_of_lt_of_le l7 K8.size
    obtain ⟨W0, hW0⟩ : ∃ W0, W0 = W.alloc (.cells #[.int .i64 0, .int .i64 0, .int .i64 0, .int .i64 0, .int .i64 0, .int .i64 0, .bool false] 37) := ⟨_, rfl⟩
    have k9 : Keeps (fun _ => False) W W0 := by rw [hW0]; exact (Keeps.refl _ W).alloc _
    have n9 : RowAt W0 W.heap.size 0 rw0 := by rw [hW0]; constructor <;> simp [rw0]
    clear K8 r7 z7 KW7 c7 hB
    (try simp only [Exit.inBlock, Exit.then])
    go_wp2_with fail
    rw [← hW0]
    clear hW0
    go_wp2_with (first | (go_at_call 7; refine (num_any _ _).mono ?_; rintro e w9 ⟨rfl, rfl⟩) | (go_at_call 13; refine (peek_nil _ _).mono ?_; rintro e W1 ⟨rfl, rfl⟩) | (go_at_call 15; refine (load_nil _ _).mono ?_; rintro e W2 ⟨rfl, k2⟩) | (go_at_call 17; refine (then_nil _ _ _).mono ?_; rintro e W3 ⟨rfl, k3⟩) | (go_at_call 18; refine (swap_nil _ _ _ _).mono ?_; rintro e W4 ⟨rfl, k4⟩) | (go_at_call 19; refine (add_nil _ _ _).mono ?_; rintro e W5 ⟨rfl, k5⟩))
    have kk := k9.trans (k2.trans (k3.trans (k4.trans k5)))
    have kn := k2.trans (k3.trans (k4.trans k5))
    have N := n9.keep kn (fun e => e)
    have q0 := N.r0
    have q1 := N.r1
    have q2 := N.r2
    have q3 := N.r3
    have q4 := N.r4
    have q5 := N.r5
    have q6 := N.r6
    simp only [rw0, Nat.zero_add] at q0 q1 q2 q3 q4 q5 q6
    have r9 := kk.cell r8 (fun e => e)
    have z9 := (kk.frozen (p := ⟨w.heap.size, 0, none⟩) l8 (fun e => e)).trans z8
    have D9 : w9.heap[D]? = some (.deferred (some [])) := (kk.block D (Array.getElem?_eq_some_iff.1 hK).1 (fun e => e)).trans hK
    have KW9 := KW8.trans kk
    have l9 : w.heap.size < w9.heap.size := Nat.lt_of_lt_of_le l8 kk.size
    have hXW : ¬ W.heap.size = w.heap.size := by omega
    have hXW' : ¬ w.heap.size = W.heap.size := by omega
    have lW : W.heap.size < w9.heap.size := World.block_lt_of_cell? _ _ q0
    clear k2 k3 k4 k5 k9 kn n9 N r8 z8 hK KW8 kk
    go_region_held3 (fun w' => w'.cell? ⟨W.heap.size, 0, none⟩ = some (.int .i64 0) ∧ w'.cell? ⟨W.heap.size, 1, none⟩ = some (.int .i64 0) ∧ w'.cell? ⟨W.heap.size, 2, none⟩ = some (.int .i64 0) ∧ w'.cell? ⟨W.heap.size, 3, none⟩ = some (.int .i64 0) ∧ w'.cell? ⟨W.heap.size, 4, none⟩ = some (.int .i64 0) ∧ w'.cell? ⟨W.heap.size, 5, none⟩ = some (.int .i64 0) ∧ w'.cell? ⟨W.heap.size, 6, none⟩ = some (.bool false)) (go_keep) (first | (go_at_call 7; refine (num_any _ _).mono ?_; rintro e wn ⟨rfl, rfl⟩) | (go_at_call 20; refine (took_nil _).mono ?_; rintro e wt ⟨rfl, kt⟩; have kt' : Keeps (fun _ => False) w9 wt := (⟨kt.os, kt.tape, kt.output, kt.size, kt.block⟩); have p0 := kt'.cell q0 (fun e => e); have p1 := kt'.cell q1 (fun e => e); have p2 := kt'.cell q2 (fun e => e); have p3 := kt'.cell q3 (fun e => e); have p4 := kt'.cell q4 (fun e => e); have p5 := kt'.cell q5 (fun e => e); have p6 := kt'.cell q6 (fun e => e); have rt := kt'.cell r9 (fun e => e); have zt := (kt'.frozen (p := ⟨w.heap.size, 0, none⟩) l9 (fun e => e)).trans z9))
    all_goals
      have Dt : wt.heap[D]? = some (.deferred (some [])) := (kt'.block D (Array.getElem?_eq_some_iff.1 D9).1 (fun e => e)).trans D9
      have hK' := (KeepsOthers.setCell wt ⟨w.heap.size, 0, none⟩ (.bool true)).same D _ Dt rfl
      have rv9 : (wt.setCell ⟨w.heap.size, 0, none⟩ (.bool true)).cell? ⟨w.heap.size, 0, none⟩ = some (.bool true) := World.cell?_setCell_same _ _ _ rt
      have hB : Below w.heap.size w (wt.setCell ⟨w.heap.size, 0, none⟩ (.bool true)) := ((KW9.trans kt').below (Nat.le_refl _) (fun _ _ e => e)).setCell (p := ⟨w.heap.size, 0, none⟩) (Nat.le_refl _) _
      have hDw : w.heap.size ≤ D := by omega
      clear q0 q1 q2 q3 q4 q5 q6 p0 p1 p2 p3 p4 p5 p6 r9 z9 rt zt kt kt' KW9 D9 Dt
      (try simp only [Exit.then])
      go_wp2_with fail
      refine ⟨by simp, .inl ⟨_, _, rfl, run_takeDeferred hK', ?_⟩⟩
      have k1 := cell_kept rv9 (grownBy_putObj' _ D (.deferred none)) (fun r e => by cases e; exact ⟨_, hK', rfl⟩)
      refine ⟨.bool true, ?_, rfl, hB.trans (belowK_b (w := w) (Nat.le_refl _) _ D _ _ hDw hK' rfl rfl)⟩
      simp [results, Try.f4, go_sem, k1]
end Go.Proofs.Ytekalkjghfghhac
