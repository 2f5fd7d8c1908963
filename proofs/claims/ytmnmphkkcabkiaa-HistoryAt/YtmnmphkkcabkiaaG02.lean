import Derived.Test.YtmnmphkkcabkiaaG01
import Derived.Laws.StructEq
import Derived.Deep.RegionHeld3
namespace Go.Proofs.Ytmnmphkkcabkiaa
open Go.RowKit
theorem results_cell1 {fn : Func} {p : Tmp} {ty : TypeId} (h : fn.results = #[.cell p ty]) (tmps : Array Value) (P : Program) (w : World) :
    (results fn tmps).run P w = ((asAddr (tmps.getD p undef)).run P w).andThen fun a w₁ => (loadVar ty a).run P w₁ := by
  simp only [results, h]
  simp [Sem.run_bind, Result.andThen]
def sil (r : Rw) : Bool := r.fin == 0 && !r.told && !r.puts
def ofA (k : Int) : Bool := decide (2 < k) && decide (k < 17)
def ofD (k : Int) : Bool := k != 0 && k != 1 && k != 2 && k != 17
def dec (n : Int) : Bool := n == 1 || n == 2 || n == 3
def comm (r : Rw) : Bool := r.kind == 15 && r.done
def endP (r : Rw) : Bool := if r.fin = 1 then comm r else if r.fin = 2 ∨ r.fin = 3 then r.kind == 16 else if r.fin = 0 ∨ r.fin = 4 ∨ r.fin = 5 then !comm r else false
def endD (r : Rw) : Bool := if decide (r.fin < 0) || decide (5 < r.fin) || (r.fin != 0 && !ofD r.kind) then false else if comm r != (r.fin == 1) then false else (r.fin != 2 && r.fin != 3) || r.kind == 16
def readP (r : Rw) (n : Int) : Bool :=
  if (r.told || r.puts) && decide (r.object < 0) then false
  else if r.kind = 4 then !r.told && decide (-1 ≤ r.entry) && decide (r.entry < n)
  else if r.told = false then true
  else if r.phase = 1 then decide (-1 ≤ r.entry) && decide (r.entry ≤ n)
  else if r.phase = 2 then decide (-1 ≤ r.entry) && decide (r.entry < n)
  else false
def readD (r : Rw) (n : Int) : Bool := if ofD r.kind then readP r n else !r.told && !r.puts
section
variable (w : World)
set_option maxHeartbeats 600000 in
set_option maxRecDepth 100000 in
theorem silent_any (r : Rw) : Calls Try.prog 52 #[.agg r.cells.toArray] w fun e w' => e = .returned (.bool (sil r)) ∧ Keeps (fun _ => False) w w' := by
  obtain ⟨w0, e0, k0, hb, -⟩ := rw_box w r
  obtain ⟨-, c0, c1, c2, c3, c4, c5, c6, c7, c8, c11, c13, c17, c21, c25⟩ := hb
  clear c0 c1 c2 c3 c4 c5 c6 c7 c8 c11 c13
  go_enter Try.func52, Try.ntmps52
  refine wp_seq_k (fun KK hKK => ?_)
  have hKH : Hid _ := hKK
  clear hKK
  go_wp2_with fail
  refine hKH.out _ _ ?_
  clear hKH KK
  rw [← e0]
  clear e0
  unfold sil
  generalize r.fin = fn at *
  generalize r.told = tl at *
  generalize r.puts = pt at *
  cases h1 : (fn == 0) <;> cases tl <;> cases pt <;> (go_wp2; go_ret; exact ⟨rfl, k0⟩)
set_option maxHeartbeats 600000 in
set_option maxRecDepth 100000 in
theorem whoOf_any (r : Rw) : Calls Try.prog 53 #[.agg r.cells.toArray] w fun e w' => e = .returned (.agg #[.int .i64 r.job, .int .i64 r.try_, .int .i64 r.no]) ∧ Keeps (fun _ => False) w w' := by
  obtain ⟨w0, e0, k0, hb, hz⟩ := rw_box w r
  have m1 : CL (w0.alloc (.cells #[.int .i64 0, .int .i64 0, .int .i64 0] 107)) (w.heap.size + 1) [.int .i64 0, .int .i64 0, .int .i64 0] := by rw [← hz]; exact CL.made w0 _ _
  have k1 : Keeps (fun _ => False) w (w0.alloc (.cells #[.int .i64 0, .int .i64 0, .int .i64 0] 107)) := k0.alloc _
  have c2 := ((Keeps.refl (fun _ => False) w0).alloc (.cells #[.int .i64 0, .int .i64 0, .int .i64 0] 107)).cell hb.c2 (fun e => e)
  have c3 := ((Keeps.refl (fun _ => False) w0).alloc (.cells #[.int .i64 0, .int .i64 0, .int .i64 0] 107)).cell hb.c3 (fun e => e)
  have c4 := ((Keeps.refl (fun _ => False) w0).alloc (.cells #[.int .i64 0, .int .i64 0, .int .i64 0] 107)).cell hb.c4 (fun e => e)
  clear hb hz k0
  go_enter Try.func53, Try.ntmps53
  refine wp_seq_k (fun KK hKK => ?_)
  have hKH : Hid _ := hKK
  clear hKK
  go_wp2_with fail
  refine hKH.out _ _ ?_
  clear hKH KK
  rw [← e0]
  clear e0
  generalize w0.alloc (.cells #[.int .i64 0, .int .i64 0, .int .i64 0] 107) = W1 at *
  have d0 := m1.c 0 _ rfl
  have d1 := m1.c 1 _ rfl
  have d2 := m1.c 2 _ rfl
  have y0 := m1.z 0 (by decide)
  have y1 := m1.z 1 (by decide)
  have y2 := m1.z 2 (by decide)
  clear m1
  generalize r.job = jb at *
  generalize r.try_ = ty at *
  generalize r.no = nn at *
  go_wp2
  refine bodyPost_ret (v := .agg #[.int .i64 jb, .int .i64 ty, .int .i64 nn]) (by rw [results_cell1 rfl]; go_simp) rfl ⟨rfl, ?_⟩
  exact ((k1.setCell (fun h => absurd h (by simp)) _).setCell (fun h => absurd h (by simp)) _).setCell (fun h => absurd h (by simp)) _
set_option maxHeartbeats 600000 in
set_option maxRecDepth 100000 in
theorem ofAttempt_any (k : Int) : Calls Try.prog 41 #[.int .i64 k] w fun e w' => e = .returned (.bool (ofA k)) ∧ w' = w := by
  unfold ofA
  cases h1 : decide (2 < k) <;> cases h2 : decide (k < 17) <;>
  (go_enter Try.func41, Try.ntmps41
   go_wp2
   go_ret
   exact ⟨rfl, rfl⟩)
set_option maxHeartbeats 600000 in
set_option maxRecDepth 100000 in
theorem decides_any (k : Int) : Calls Try.prog 29 #[.int .i64 k] w fun e w' => e = .returned (.bool (dec k)) ∧ w' = w := by
  unfold dec
  cases h1 : (k == 1) <;> cases h2 : (k == 2) <;> cases h3 : (k == 3) <;>
  (go_enter Try.func29, Try.ntmps29
   go_wp2
   go_ret
   exact ⟨rfl, rfl⟩)
set_option maxHeartbeats 600000 in
set_option maxRecDepth 100000 in
theorem outcome_any (k : Int) : Calls Try.prog 28 #[.int .i64 k] w fun e w' => e = .returned (.bool (dec k)) ∧ w' = w := by
  unfold dec
  cases h1 : (k == 1) <;> cases h2 : (k == 2) <;> cases h3 : (k == 3) <;>
  (go_enter Try.func28, Try.ntmps28
   go_wp2
   go_ret
   exact ⟨rfl, rfl⟩)
set_option maxHeartbeats 600000 in
set_option maxRecDepth 100000 in
theorem of_any (k : Int) : Calls Try.prog 35 #[.int .i64 k] w fun e w' => e = .returned (.bool (ofD k)) ∧ w' = w := by
  unfold ofD
  cases h1 : (k != 0) <;> cases h2 : (k != 1) <;> cases h3 : (k != 2) <;> cases h4 : (k != 17) <;>
  (go_enter Try.func35, Try.ntmps35
   go_wp2
   go_ret
   exact ⟨rfl, rfl⟩)
set_option maxHeartbeats 600000 in
set_option maxRecDepth 100000 in
theorem endFits_any (r : Rw) : Calls Try.prog 54 #[.agg r.cells.toArray] w fun e w' => e = .returned (.bool (endP r)) ∧ Keeps (fun _ => False) w w' := by
  obtain ⟨w0, e0, k0, hb, -⟩ := rw_box w r
  obtain ⟨-, c0, c1, c2, c3, c4, c5, c6, c7, c8, c11, c13, c17, c21, c25⟩ := hb
  clear c0 c1 c2 c3 c4 c6 c7 c8 c11 c17 c21
  go_enter Try.func54, Try.ntmps54
  refine wp_seq_k (fun KK hKK => ?_)
  have hKH : Hid _ := hKK
  clear hKK
  go_wp2_with fail
  refine hKH.out _ _ ?_
  clear hKH KK
  rw [← e0]
  clear e0
  unfold endP comm
  generalize r.kind = kd at *
  generalize r.done = dn at *
  generalize r.fin = fn at *
  by_cases g : fn = 0 ∨ fn = 1 ∨ fn = 2 ∨ fn = 3 ∨ fn = 4 ∨ fn = 5
  · rcases g with rfl | rfl | rfl | rfl | rfl | rfl
    iterate 2
      cases h1 : (kd == 15)
      · go_wp2; go_ret; exact ⟨rfl, k0⟩
      · cases dn <;> (go_wp2; go_ret; exact ⟨rfl, k0⟩)
    iterate 2
      cases h1 : (kd == 15)
      · cases h2 : (kd == 16) <;> (go_wp2; go_ret; exact ⟨rfl, k0⟩)
      · cases dn <;> cases h2 : (kd == 16) <;> (go_wp2; go_ret; exact ⟨rfl, k0⟩)
    iterate 2
      cases h1 : (kd == 15)
      · go_wp2; go_ret; exact ⟨rfl, k0⟩
      · cases dn <;> (go_wp2; go_ret; exact ⟨rfl, k0⟩)
  · have b0 : (fn == 0) = false := beq_eq_false_iff_ne.2 (by omega)
    have b1 : (fn == 1) = false := beq_eq_false_iff_ne.2 (by omega)
    have b2 : (fn == 2) = false := beq_eq_false_iff_ne.2 (by omega)
    have b3 : (fn == 3) = false := beq_eq_false_iff_ne.2 (by omega)
    have b4 : (fn == 4) = false := beq_eq_false_iff_ne.2 (by omega)
    have b5 : (fn == 5) = false := beq_eq_false_iff_ne.2 (by omega)
    rw [if_neg (by omega), if_neg (by omega), if_neg (by omega)]
    clear g
    cases h1 : (kd == 15)
    · go_wp2; go_ret; exact ⟨rfl, k0⟩
    · cases dn <;> (go_wp2; go_ret; exact ⟨rfl, k0⟩)
set_option maxHeartbeats 600000 in
set_option maxRecDepth 100000 in
theorem ended_any (r : Rw) : Calls Try.prog 48 #[.agg r.cells.toArray] w fun e w' => e = .returned (.bool (endD r)) ∧ Keeps (fun _ => False) w w' := by
  obtain ⟨w0, e0, k0, hb, -⟩ := rw_box w r
  obtain ⟨-, c0, c1, c2, c3, c4, c5, c6, c7, c8, c11, c13, c17, c21, c25⟩ := hb
  clear c0 c1 c2 c3 c4 c6 c7 c8 c11 c17 c21
  go_enter Try.func48, Try.ntmps48
  refine wp_seq_k (fun KK hKK => ?_)
  have hKH : Hid _ := hKK
  clear hKK
  go_wp2_with fail
  refine hKH.out _ _ ?_
  clear hKH KK
  rw [← e0]
  clear e0
  unfold endD comm
  generalize r.kind = kd at *
  generalize r.done = dn at *
  generalize r.fin = fn at *
  have hof := of_any w0 kd
  by_cases g : fn = 0 ∨ fn = 1 ∨ fn = 2 ∨ fn = 3 ∨ fn = 4 ∨ fn = 5
  · by_cases g0 : fn = 0
    · subst g0
      clear hof
      cases h1 : (kd == 15)
      · go_wp2; go_ret; exact ⟨rfl, k0⟩
      · cases dn <;> (go_wp2; go_ret; exact ⟨rfl, k0⟩)
    cases ho : ofD kd
    · rw [ho] at hof
      rcases g with rfl | rfl | rfl | rfl | rfl | rfl
      · exact absurd rfl g0
      all_goals (go_wp2_with (go_at_call 35; refine hof.mono ?_; rintro e w9 ⟨rfl, rfl⟩); go_ret; exact ⟨rfl, k0⟩)
    · rw [ho] at hof
      rcases g with rfl | rfl | rfl | rfl | rfl | rfl
      · exact absurd rfl g0
      · cases h1 : (kd == 15)
        · go_wp2_with (go_at_call 35; refine hof.mono ?_; rintro e w9 ⟨rfl, rfl⟩)
          go_ret; exact ⟨rfl, k0⟩
        · cases dn <;> (go_wp2_with (go_at_call 35; refine hof.mono ?_; rintro e w9 ⟨rfl, rfl⟩); go_ret; exact ⟨rfl, k0⟩)
      iterate 2
        cases h1 : (kd == 15)
        · cases h2 : (kd == 16) <;> (go_wp2_with (go_at_call 35; refine hof.mono ?_; rintro e w9 ⟨rfl, rfl⟩); go_ret; exact ⟨rfl, k0⟩)
        · cases dn
          · cases h2 : (kd == 16) <;> (go_wp2_with (go_at_call 35; refine hof.mono ?_; rintro e w9 ⟨rfl, rfl⟩); go_ret; exact ⟨rfl, k0⟩)
          · go_wp2_with (go_at_call 35; refine hof.mono ?_; rintro e w9 ⟨rfl, rfl⟩)
            go_ret; exact ⟨rfl, k0⟩
      all_goals
        cases h1 : (kd == 15)
        · go_wp2_with (go_at_call 35; refine hof.mono ?_; rintro e w9 ⟨rfl, rfl⟩)
          go_ret; exact ⟨rfl, k0⟩
        · cases dn <;> (go_wp2_with (go_at_call 35; refine hof.mono ?_; rintro e w9 ⟨rfl, rfl⟩); go_ret; exact ⟨rfl, k0⟩)
  · clear hof
    by_cases g1 : fn < 0
    · have b0 : decide (fn < 0) = true := decide_eq_true g1
      rw [if_pos (by rw [b0]; rfl)]
      clear g
      go_wp2; go_ret; exact ⟨rfl, k0⟩
    · have b0 : decide (fn < 0) = false := decide_eq_false g1
      have b1 : decide (5 < fn) = true := decide_eq_true (by omega)
      rw [if_pos (by rw [b0, b1]; rfl)]
      clear g
      go_wp2; go_ret; exact ⟨rfl, k0⟩
end
end Go.Proofs.Ytmnmphkkcabkiaa

namespace Go.Proofs.Ytmnmphkkcabkiaa
open Go.RowKit
structure IB (w : World) (b n : Nat) (f : Nat → Int) : Prop where
  c : ∀ o, o < n → w.cell? ⟨b, o, none⟩ = some (.int .i64 (f o))
  z : ∀ o, o < n → w.frozen? ⟨b, o, none⟩ = false
def up (f : Nat → Int) (o : Nat) (v : Int) : Nat → Int := fun p => if p = o then v else f p
theorem up_same {f : Nat → Int} {o : Nat} {v : Int} : up f o v o = v := if_pos rfl
theorem up_other {f : Nat → Int} {o p : Nat} {v : Int} (h : p ≠ o) : up f o v p = f p := if_neg h
section
variable {w w' : World} {b n : Nat} {f : Nat → Int}
theorem IB.lt (h : IB w b n f) (hn : 0 < n) : b < w.heap.size := World.block_lt_of_cell? _ _ (h.c 0 hn)
theorem IB.keep (h : IB w b n f) (hn : 0 < n) {S : Nat → Prop} (k : Keeps S w w') (hS : ¬ S b) : IB w' b n f :=
  ⟨fun o ho => k.cell (h.c o ho) hS, fun o ho => (k.frozen (p := ⟨b, o, none⟩) (h.lt hn) hS).trans (h.z o ho)⟩
theorem IB.set (h : IB w b n f) {o : Nat} (ho : o < n) (v : Int) : IB (w.setCell ⟨b, o, none⟩ (.int .i64 v)) b n (up f o v) := by
  refine ⟨fun p hp => ?_, fun p hp => by simp only [World.frozen?_setCell]; exact h.z p hp⟩
  by_cases e : p = o
  · subst e
    rw [up_same]
    exact World.cell?_setCell_same _ _ _ (h.c p hp)
  · rw [up_other e, World.cell?_setCell_other _ _ _ _ (by intro e2; injection e2 with _ e3; exact e e3.symm)]
    exact h.c p hp
end
theorem IB.made (w : World) (n : Nat) (v : Int) (t : TypeId) : IB (w.alloc (.cells (List.replicate n (.int .i64 v)).toArray t)) w.heap.size n (fun _ => v) := by
  have := CL.made w (List.replicate n (.int .i64 v)) t
  exact ⟨fun o ho => this.c o _ (by simp [ho]), fun o ho => this.z o (by simpa using ho)⟩
set_option maxHeartbeats 2000000 in
set_option maxRecDepth 100000 in
theorem readFits_any (w : World) (s j t n cn : Int) (r : Rw) : Calls Try.prog 55 #[.agg #[.int .i64 s, .int .i64 j, .int .i64 t, .int .i64 n, .int .i64 cn], .agg r.cells.toArray] w fun e w' => e = .returned (.bool (readP r cn)) ∧ Keeps (fun _ => False) w w' := by
  obtain ⟨W, eW⟩ : ∃ W, W = w.alloc (.cells #[.int .i64 s, .int .i64 j, .int .i64 t, .int .i64 n, .int .i64 cn] 109) := ⟨_, rfl⟩
  have m0 : CL W w.heap.size [.int .i64 s, .int .i64 j, .int .i64 t, .int .i64 n, .int .i64 cn] := by rw [eW]; exact CL.made w _ _
  have kW : Keeps (fun _ => False) w W := by rw [eW]; exact (Keeps.refl _ w).alloc _
  have hzW : W.heap.size = w.heap.size + 1 := by rw [eW]; simp
  obtain ⟨w0, e0, k0, hb, -⟩ := rw_box W r
  rw [hzW] at hb
  have d4 := k0.cell (m0.c 4 _ rfl) (fun e => e)
  have k0 := kW.trans k0
  obtain ⟨-, c0, c1, c2, c3, c4, c5, c6, c7, c8, c11, c13, c17, c21, c25⟩ := hb
  clear c0 c1 c2 c3 c4 c11 c13 c25 m0 kW hzW
  go_enter Try.func55, Try.ntmps55
  refine wp_seq_k (fun KK hKK => ?_)
  have hKH : Hid _ := hKK
  clear hKK
  go_wp2_with fail
  refine hKH.out _ _ ?_
  clear hKH KK
  rw [← eW, ← e0]
  clear e0 eW
  unfold readP
  generalize r.told = tl at *
  generalize r.puts = pt at *
  generalize r.object = ob at *
  generalize r.kind = kd at *
  generalize r.phase = ph at *
  generalize r.entry = en at *
  by_cases hob : ob < 0
  · have b1 : decide (ob < 0) = true := decide_eq_true hob
    cases tl
    · cases pt
      · by_cases hk : kd = 4
        · subst hk
          cases h1 : decide (-1 ≤ en) <;> cases h2 : decide (en < cn) <;> (go_wp2; go_ret; (first | exact ⟨rfl, k0⟩ | (simp [*]; done)))
        · have b2 : (kd == 4) = false := beq_eq_false_iff_ne.2 hk
          (go_wp2; go_ret; (first | exact ⟨rfl, k0⟩ | (simp [*]; done)))
      · (go_wp2; go_ret; (first | exact ⟨rfl, k0⟩ | (simp [*]; done)))
    · (go_wp2; go_ret; (first | exact ⟨rfl, k0⟩ | (simp [*]; done)))
  · have b1 : decide (ob < 0) = false := decide_eq_false hob
    cases tl
    · cases pt
      · by_cases hk : kd = 4
        · subst hk
          cases h1 : decide (-1 ≤ en) <;> cases h2 : decide (en < cn) <;> (go_wp2; go_ret; (first | exact ⟨rfl, k0⟩ | (simp [*]; done)))
        · have b2 : (kd == 4) = false := beq_eq_false_iff_ne.2 hk
          (go_wp2; go_ret; (first | exact ⟨rfl, k0⟩ | (simp [*]; done)))
      · by_cases hk : kd = 4
        · subst hk
          cases h1 : decide (-1 ≤ en) <;> cases h2 : decide (en < cn) <;> (go_wp2; go_ret; (first | exact ⟨rfl, k0⟩ | (simp [*]; done)))
        · have b2 : (kd == 4) = false := beq_eq_false_iff_ne.2 hk
          (go_wp2; go_ret; (first | exact ⟨rfl, k0⟩ | (simp [*]; done)))
    · by_cases hk : kd = 4
      · subst hk
        cases pt <;> (go_wp2; go_ret; (first | exact ⟨rfl, k0⟩ | (simp [*]; done)))
      · have b2 : (kd == 4) = false := beq_eq_false_iff_ne.2 hk
        by_cases hp1 : ph = 1
        · subst hp1
          cases h1 : decide (-1 ≤ en) <;> cases h2 : decide (en ≤ cn) <;> cases pt <;> (go_wp2; go_ret; (first | exact ⟨rfl, k0⟩ | (simp [*]; done)))
        · have b3 : (ph == 1) = false := beq_eq_false_iff_ne.2 hp1
          by_cases hp2 : ph = 2
          · subst hp2
            cases h1 : decide (-1 ≤ en) <;> cases h2 : decide (en < cn) <;> cases pt <;> (go_wp2; go_ret; (first | exact ⟨rfl, k0⟩ | (simp [*]; done)))
          · have b4 : (ph == 2) = false := beq_eq_false_iff_ne.2 hp2
            cases pt <;> (go_wp2; go_ret; (first | exact ⟨rfl, k0⟩ | (simp [*]; done)))
set_option maxHeartbeats 2000000 in
set_option maxRecDepth 100000 in
theorem rtold_any (w : World) {gb : Nat} {g : Nat → Int} (hB : IB w gb 14 g) (r : Rw) (th : Nat) (hth : ofD r.kind = true → r.thread = (th : Int) ∧ th < 6) : Calls Try.prog 49 #[.pointer (some ⟨gb, 0, none⟩), .agg r.cells.toArray] w fun e w' => e = .returned (.bool (readD r (g (6 + th)))) ∧ Keeps (fun _ => False) w w' := by
  obtain ⟨w0, e0, k0, hb, -⟩ := rw_box w r
  have hB0 := hB.keep (by decide) k0 (fun e => e)
  have hof := of_any w0 r.kind
  obtain ⟨-, c0, c1, c2, c3, c4, c5, c6, c7, c8, c11, c13, c17, c21, c25⟩ := hb
  clear c0 c2 c3 c4 c11 c13 c25 hB
  go_enter Try.func49, Try.ntmps49
  refine wp_seq_k (fun KK hKK => ?_)
  have hKH : Hid _ := hKK
  clear hKK
  go_wp2_with fail
  refine hKH.out _ _ ?_
  clear hKH KK
  rw [← e0]
  clear e0
  unfold readD readP
  cases ho : ofD r.kind
  · rw [ho] at hof
    clear hth hB0
    generalize r.told = tl at *
    generalize r.puts = pt at *
    cases tl <;> cases pt <;> (go_wp2_with (go_at_call 35; refine hof.mono ?_; rintro e w9 ⟨rfl, rfl⟩); go_ret; exact ⟨rfl, k0⟩)
  obtain ⟨et, hl⟩ := hth ho
  rw [ho] at hof
  clear hth ho
  have d6 := hB0.c (6 + th) (by omega)
  generalize g (6 + th) = cn at *
  clear hB0
  rw [et] at c1
  clear et
  have i1 : (0 : Int) ≤ (th : Int) := by omega
  have i2 : (th : Int) < 6 := by omega
  generalize r.told = tl at *
  generalize r.puts = pt at *
  generalize r.object = ob at *
  generalize r.kind = kd at *
  generalize r.phase = ph at *
  generalize r.entry = en at *
  refine wp_seq_k (fun KK hKK => ?_)
  have hKH : Hid _ := hKK
  clear hKK
  go_wp2_with (go_at_call 35; refine hof.mono ?_; rintro e w9 ⟨rfl, ew⟩; subst w9)
  refine hKH.out _ _ ?_
  clear hKH KK hof
  have hNE : Nonempty (KS w0) := ⟨⟨w0, Keeps.refl _ w0⟩⟩
  have q1 := ks_cell c1
  have q6 := ks_cell d6
  by_cases hob : ob < 0
  · have b1 : decide (ob < 0) = true := decide_eq_true hob
    cases tl
    · cases pt
      · by_cases hk : kd = 4
        · subst hk
          cases h1 : decide (-1 ≤ en) <;> cases h2 : decide (en < cn) <;> (go_wp2_with fail; (first | (go_ret; exact ⟨rfl, k0⟩) | (refine wp_region_ks (by kernel_rfl) (by kernel_rfl) ?_; (repeat (go_big_quiet_step (fail))); refine wpQuiet_nil ?_; rintro _ ⟨u, rfl⟩; clear q1 q6; have z5 := u.property.cell c5 (fun e => e); have z6 := u.property.cell c6 (fun e => e); have z8 := u.property.cell c8 (fun e => e); have z17 := u.property.cell c17 (fun e => e); have kk := k0.trans u.property; generalize u.val = wu at *; go_wp2; go_ret; (first | exact ⟨rfl, kk⟩ | (simp [*]; done)))))
        · have b2 : (kd == 4) = false := beq_eq_false_iff_ne.2 hk
          (go_wp2_with fail; (first | (go_ret; exact ⟨rfl, k0⟩) | (refine wp_region_ks (by kernel_rfl) (by kernel_rfl) ?_; (repeat (go_big_quiet_step (fail))); refine wpQuiet_nil ?_; rintro _ ⟨u, rfl⟩; clear q1 q6; have z5 := u.property.cell c5 (fun e => e); have z6 := u.property.cell c6 (fun e => e); have z8 := u.property.cell c8 (fun e => e); have z17 := u.property.cell c17 (fun e => e); have kk := k0.trans u.property; generalize u.val = wu at *; go_wp2; go_ret; (first | exact ⟨rfl, kk⟩ | (simp [*]; done)))))
      · (go_wp2_with fail; (first | (go_ret; exact ⟨rfl, k0⟩) | (refine wp_region_ks (by kernel_rfl) (by kernel_rfl) ?_; (repeat (go_big_quiet_step (fail))); refine wpQuiet_nil ?_; rintro _ ⟨u, rfl⟩; clear q1 q6; have z5 := u.property.cell c5 (fun e => e); have z6 := u.property.cell c6 (fun e => e); have z8 := u.property.cell c8 (fun e => e); have z17 := u.property.cell c17 (fun e => e); have kk := k0.trans u.property; generalize u.val = wu at *; go_wp2; go_ret; (first | exact ⟨rfl, kk⟩ | (simp [*]; done)))))
    · (go_wp2_with fail; (first | (go_ret; exact ⟨rfl, k0⟩) | (refine wp_region_ks (by kernel_rfl) (by kernel_rfl) ?_; (repeat (go_big_quiet_step (fail))); refine wpQuiet_nil ?_; rintro _ ⟨u, rfl⟩; clear q1 q6; have z5 := u.property.cell c5 (fun e => e); have z6 := u.property.cell c6 (fun e => e); have z8 := u.property.cell c8 (fun e => e); have z17 := u.property.cell c17 (fun e => e); have kk := k0.trans u.property; generalize u.val = wu at *; go_wp2; go_ret; (first | exact ⟨rfl, kk⟩ | (simp [*]; done)))))
  · have b1 : decide (ob < 0) = false := decide_eq_false hob
    cases tl
    · cases pt
      · by_cases hk : kd = 4
        · subst hk
          cases h1 : decide (-1 ≤ en) <;> cases h2 : decide (en < cn) <;> (go_wp2_with fail; (first | (go_ret; exact ⟨rfl, k0⟩) | (refine wp_region_ks (by kernel_rfl) (by kernel_rfl) ?_; (repeat (go_big_quiet_step (fail))); refine wpQuiet_nil ?_; rintro _ ⟨u, rfl⟩; clear q1 q6; have z5 := u.property.cell c5 (fun e => e); have z6 := u.property.cell c6 (fun e => e); have z8 := u.property.cell c8 (fun e => e); have z17 := u.property.cell c17 (fun e => e); have kk := k0.trans u.property; generalize u.val = wu at *; go_wp2; go_ret; (first | exact ⟨rfl, kk⟩ | (simp [*]; done)))))
        · have b2 : (kd == 4) = false := beq_eq_false_iff_ne.2 hk
          (go_wp2_with fail; (first | (go_ret; exact ⟨rfl, k0⟩) | (refine wp_region_ks (by kernel_rfl) (by kernel_rfl) ?_; (repeat (go_big_quiet_step (fail))); refine wpQuiet_nil ?_; rintro _ ⟨u, rfl⟩; clear q1 q6; have z5 := u.property.cell c5 (fun e => e); have z6 := u.property.cell c6 (fun e => e); have z8 := u.property.cell c8 (fun e => e); have z17 := u.property.cell c17 (fun e => e); have kk := k0.trans u.property; generalize u.val = wu at *; go_wp2; go_ret; (first | exact ⟨rfl, kk⟩ | (simp [*]; done)))))
      · by_cases hk : kd = 4
        · subst hk
          cases h1 : decide (-1 ≤ en) <;> cases h2 : decide (en < cn) <;> (go_wp2_with fail; (first | (go_ret; exact ⟨rfl, k0⟩) | (refine wp_region_ks (by kernel_rfl) (by kernel_rfl) ?_; (repeat (go_big_quiet_step (fail))); refine wpQuiet_nil ?_; rintro _ ⟨u, rfl⟩; clear q1 q6; have z5 := u.property.cell c5 (fun e => e); have z6 := u.property.cell c6 (fun e => e); have z8 := u.property.cell c8 (fun e => e); have z17 := u.property.cell c17 (fun e => e); have kk := k0.trans u.property; generalize u.val = wu at *; go_wp2; go_ret; (first | exact ⟨rfl, kk⟩ | (simp [*]; done)))))
        · have b2 : (kd == 4) = false := beq_eq_false_iff_ne.2 hk
          (go_wp2_with fail; (first | (go_ret; exact ⟨rfl, k0⟩) | (refine wp_region_ks (by kernel_rfl) (by kernel_rfl) ?_; (repeat (go_big_quiet_step (fail))); refine wpQuiet_nil ?_; rintro _ ⟨u, rfl⟩; clear q1 q6; have z5 := u.property.cell c5 (fun e => e); have z6 := u.property.cell c6 (fun e => e); have z8 := u.property.cell c8 (fun e => e); have z17 := u.property.cell c17 (fun e => e); have kk := k0.trans u.property; generalize u.val = wu at *; go_wp2; go_ret; (first | exact ⟨rfl, kk⟩ | (simp [*]; done)))))
    · by_cases hk : kd = 4
      · subst hk
        cases pt <;> (go_wp2_with fail; (first | (go_ret; exact ⟨rfl, k0⟩) | (refine wp_region_ks (by kernel_rfl) (by kernel_rfl) ?_; (repeat (go_big_quiet_step (fail))); refine wpQuiet_nil ?_; rintro _ ⟨u, rfl⟩; clear q1 q6; have z5 := u.property.cell c5 (fun e => e); have z6 := u.property.cell c6 (fun e => e); have z8 := u.property.cell c8 (fun e => e); have z17 := u.property.cell c17 (fun e => e); have kk := k0.trans u.property; generalize u.val = wu at *; go_wp2; go_ret; (first | exact ⟨rfl, kk⟩ | (simp [*]; done)))))
      · have b2 : (kd == 4) = false := beq_eq_false_iff_ne.2 hk
        by_cases hp1 : ph = 1
        · subst hp1
          cases h1 : decide (-1 ≤ en) <;> cases h2 : decide (en ≤ cn) <;> cases pt <;> (go_wp2_with fail; (first | (go_ret; exact ⟨rfl, k0⟩) | (refine wp_region_ks (by kernel_rfl) (by kernel_rfl) ?_; (repeat (go_big_quiet_step (fail))); refine wpQuiet_nil ?_; rintro _ ⟨u, rfl⟩; clear q1 q6; have z5 := u.property.cell c5 (fun e => e); have z6 := u.property.cell c6 (fun e => e); have z8 := u.property.cell c8 (fun e => e); have z17 := u.property.cell c17 (fun e => e); have kk := k0.trans u.property; generalize u.val = wu at *; go_wp2; go_ret; (first | exact ⟨rfl, kk⟩ | (simp [*]; done)))))
        · have b3 : (ph == 1) = false := beq_eq_false_iff_ne.2 hp1
          by_cases hp2 : ph = 2
          · subst hp2
            cases h1 : decide (-1 ≤ en) <;> cases h2 : decide (en < cn) <;> cases pt <;> (go_wp2_with fail; (first | (go_ret; exact ⟨rfl, k0⟩) | (refine wp_region_ks (by kernel_rfl) (by kernel_rfl) ?_; (repeat (go_big_quiet_step (fail))); refine wpQuiet_nil ?_; rintro _ ⟨u, rfl⟩; clear q1 q6; have z5 := u.property.cell c5 (fun e => e); have z6 := u.property.cell c6 (fun e => e); have z8 := u.property.cell c8 (fun e => e); have z17 := u.property.cell c17 (fun e => e); have kk := k0.trans u.property; generalize u.val = wu at *; go_wp2; go_ret; (first | exact ⟨rfl, kk⟩ | (simp [*]; done)))))
          · have b4 : (ph == 2) = false := beq_eq_false_iff_ne.2 hp2
            cases pt <;> (go_wp2_with fail; (first | (go_ret; exact ⟨rfl, k0⟩) | (refine wp_region_ks (by kernel_rfl) (by kernel_rfl) ?_; (repeat (go_big_quiet_step (fail))); refine wpQuiet_nil ?_; rintro _ ⟨u, rfl⟩; clear q1 q6; have z5 := u.property.cell c5 (fun e => e); have z6 := u.property.cell c6 (fun e => e); have z8 := u.property.cell c8 (fun e => e); have z17 := u.property.cell c17 (fun e => e); have kk := k0.trans u.property; generalize u.val = wu at *; go_wp2; go_ret; (first | exact ⟨rfl, kk⟩ | (simp [*]; done)))))
end Go.Proofs.Ytmnmphkkcabkiaa

namespace Go.Proofs.Ytmnmphkkcabkiaa
open Go.RowKit
theorem wpList_load_runG {P : Program} {w : World} {ops : Array Oper} {rest : List Oper} {o : Oper} {a : Act} {Q : Exit → Act → World → Prop} (hw : Region.wanted o (yielded ops a.tmps) = true) (ty : TypeId) (x : Operand) (ho : o.op = .load ty x) (ad : Addr) (hx : a.eval x = .pointer (some ad)) (v : Value)
    (hr : (loadVar ty ad).run P w = .ok v w) (h : wpList P ops Q rest (a.put o.dst v) w) : wpList P ops Q (o :: rest) a w :=
  BigFrame.wpList_want hw fun _ hK => by
    unfold Oper.wp execOp
    simp only [ho, hx, Instr.loadAt, Instr.sureAddr, Sem.run_bind, Sem.run_pure, Result.andThen_ok, hr]
    exact hK _ _ h
theorem wpQuiet_load {P : Program} {ops : Array Oper} {C : World → Prop} {Q : Act → Prop} {rest : List Oper} {o : Oper} {a : Act} (hw : Region.wanted o (yielded ops a.tmps) = true) (ty : TypeId) (x : Operand) (ho : o.op = .load ty x) (ad : Addr) (hx : a.eval x = .pointer (some ad)) (v : Value)
    (hr : ∀ w, C w → (loadVar ty ad).run P w = .ok v w) (h : wpQuiet P ops C Q rest (a.put o.dst v)) : wpQuiet P ops C Q (o :: rest) a :=
  BigFrame.wpQuiet_want hw fun K hK => ⟨v, fun w hC => by
    unfold Oper.quietAt execOp
    simp only [ho, hx, Instr.loadAt, Instr.sureAddr, Sem.run_bind, Sem.run_pure, Result.andThen_ok, hr w hC]
    exact ⟨rfl, rfl⟩, hK _ h⟩
theorem wpQuiet_eql {P : Program} {ops : Array Oper} {C : World → Prop} {Q : Act → Prop} {rest : List Oper} {o : Oper} {a : Act} (hw : Region.wanted o (yielded ops a.tmps) = true) (ty t2 : TypeId) (x y : Operand) (ho : o.op = .binOp .eql ty x y t2) (xs ys : Array Value) (hx : a.eval x = .agg xs) (hy : a.eval y = .agg ys) (b : Bool)
    (hm : P.eqGuardType P.depth ty = false) (hr : ∀ w, (Op.equalIn 10000 ty (.agg xs) (.agg ys)).run P w = .ok b w) (h : wpQuiet P ops C Q rest (a.put o.dst (.bool b))) : wpQuiet P ops C Q (o :: rest) a :=
  BigFrame.wpQuiet_want hw fun K hK => ⟨.bool b, fun w hC => by
    unfold Oper.quietAt execOp
    simp only [ho, hx, hy, Sem.run_bind, Sem.run_pure, Result.andThen_ok, run_eqGuard_agg _ _ _ _ _ _ _ hm, run_eql_struct, hr]
    exact ⟨rfl, rfl⟩, hK _ h⟩
theorem iRw : (Try.prog.info? 50).map (·.size) = some 26 := by kernel_rfl
theorem run_rw {W : World} {b : Nat} {r : Rw} (h : CL W b r.cells) : (loadVar 50 ⟨b, 0, none⟩).run Try.prog W = .ok (.agg r.cells.toArray) W :=
  run_loadVar_mid W b 0 50 r.cells _ (fun j v e => by have := h.c j v e; rwa [Nat.zero_add]) Try.underlying50 rfl (by rw [iRw]; rfl)
def eq3 (a b c x y z : Int) : Bool := a == x && b == y && c == z
theorem eql_who (w : World) (a b c x y z : Int) : (Op.equalIn 10000 107 (.agg #[.int .i64 a, .int .i64 b, .int .i64 c]) (.agg #[.int .i64 x, .int .i64 y, .int .i64 z])).run Try.prog w = .ok (eq3 a b c x y z) w := by
  rw [run_equalIn_agg w 9999 _ _ _ (by kernel_rfl) (by kernel_rfl)]
  unfold Program.fieldsOf
  rw [Try.underlying107]
  simp only [eq3]
  go_simp
  (repeat' split) <;> simp_all
def fitP (f : Nat → Int) (r : Rw) (th : Nat) : Bool :=
  if r.kind = 0 then r.thread == -1 && r.try_ == 0 && r.job == -1 && r.no == -1 && sil r
  else if r.thread < 0 ∨ 6 ≤ r.thread then false
  else if r.kind = 1 then f (th * 5) == 0 && eq3 r.job r.try_ r.no (f (th * 5 + 1) + 1) 1 (f 31 + 1) && r.seen == f 30 && sil r
  else if r.kind = 2 then f (th * 5) == 2 && eq3 r.job r.try_ r.no (f (th * 5 + 1)) (f (th * 5 + 2) + 1) (f 31 + 1) && sil r
  else if r.kind = 17 then f (th * 5) == 3 && eq3 r.job r.try_ r.no (f (th * 5 + 1)) (f (th * 5 + 2)) (f (th * 5 + 3)) && sil r
  else ofA r.kind && f (th * 5) == 1 && eq3 r.job r.try_ r.no (f (th * 5 + 1)) (f (th * 5 + 2)) (f (th * 5 + 3)) && endP r && readP r (f (th * 5 + 4))
set_option maxHeartbeats 1000000 in
set_option maxRecDepth 100000 in
theorem fits_stutter (w : World) {kb : Nat} {f : Nat → Int} (hK : IB w kb 32 f) (r : Rw) (th : Nat) (hk : r.kind = 0) : Calls Try.prog 38 #[.pointer (some ⟨kb, 0, none⟩), .agg r.cells.toArray] w fun e w' => e = .returned (.bool (fitP f r th)) ∧ Keeps (fun _ => False) w w' := by
  obtain ⟨w0, e0, k0, hb, hz0⟩ := rw_box w r
  have hK0 := hK.keep (by decide) k0 (fun e => e)
  have hne : ¬ kb = w.heap.size := fun e => by have := hK.lt (by decide); omega
  obtain ⟨hcl, c0, c1, c2, c3, c4, c5, c6, c7, c8, c11, c13, c17, c21, c25⟩ := hb
  unfold fitP
  rw [if_pos hk]
  have hs := silent_any w0 r
  have hR := run_rw hcl
  rw [hk] at c5
  clear hK hK0 hcl c0 c6 c7 c8 c11 c13 c17 c21 c25 hk
  go_enter Try.func38, Try.ntmps38
  refine wp_seq_k (fun KK hKK => ?_)
  have hKH : Hid _ := hKK
  clear hKK
  go_wp2_with fail
  refine hKH.out _ _ ?_
  clear hKH KK
  rw [← e0]
  clear e0
  generalize r.thread = tr at *
  generalize r.try_ = ty at *
  generalize r.job = jb at *
  generalize r.no = nn at *
  generalize sil r = sl at *
  have HR : Hid (_ = _) := hR
  clear hR
  cases h1 : (tr == -1)
  · go_wp2; go_ret; exact ⟨rfl, k0⟩
  cases h2 : (ty == 0)
  · go_wp2; go_ret; exact ⟨rfl, k0⟩
  cases h3 : (jb == -1)
  · go_wp2; go_ret; exact ⟨rfl, k0⟩
  cases h4 : (nn == -1)
  · go_wp2; go_ret; exact ⟨rfl, k0⟩
  go_wp2_with (first | (refine wpList_load_runG (by rfl) 50 _ rfl ⟨w.heap.size, 0, none⟩ rfl _ HR.out ?_; clear HR) | (go_at_call 52; refine hs.mono ?_; clear hs; rintro e w9 ⟨rfl, k9⟩))
  go_ret
  exact ⟨rfl, k0.trans k9⟩
set_option maxHeartbeats 1000000 in
set_option maxRecDepth 100000 in
theorem fits_away (w : World) {kb : Nat} {f : Nat → Int} (hK : IB w kb 32 f) (r : Rw) (th : Nat) (hk : r.kind ≠ 0) (ht : r.thread < 0 ∨ 6 ≤ r.thread) : Calls Try.prog 38 #[.pointer (some ⟨kb, 0, none⟩), .agg r.cells.toArray] w fun e w' => e = .returned (.bool (fitP f r th)) ∧ Keeps (fun _ => False) w w' := by
  obtain ⟨w0, e0, k0, hb, hz0⟩ := rw_box w r
  have hK0 := hK.keep (by decide) k0 (fun e => e)
  have hne : ¬ kb = w.heap.size := fun e => by have := hK.lt (by decide); omega
  obtain ⟨hcl, c0, c1, c2, c3, c4, c5, c6, c7, c8, c11, c13, c17, c21, c25⟩ := hb
  unfold fitP
  rw [if_neg hk, if_pos ht]
  have b0 : (r.kind == 0) = false := beq_eq_false_iff_ne.2 hk
  clear hK hK0 hcl c0 c2 c3 c4 c6 c7 c8 c11 c13 c17 c21 c25 hk
  go_enter Try.func38, Try.ntmps38
  refine wp_seq_k (fun KK hKK => ?_)
  have hKH : Hid _ := hKK
  clear hKK
  go_wp2_with fail
  refine hKH.out _ _ ?_
  clear hKH KK
  rw [← e0]
  clear e0
  generalize r.thread = tr at *
  generalize r.kind = kd at *
  by_cases h1 : tr < 0
  · have b1 : decide (tr < 0) = true := decide_eq_true h1
    go_wp2; go_ret; exact ⟨rfl, k0⟩
  · have b1 : decide (tr < 0) = false := decide_eq_false h1
    have b2 : decide (6 ≤ tr) = true := decide_eq_true (by omega)
    go_wp2; go_ret; exact ⟨rfl, k0⟩
end Go.Proofs.Ytmnmphkkcabkiaa

namespace Go.Proofs.Ytmnmphkkcabkiaa
open Go.RowKit
set_option maxHeartbeats 1000000 in
set_option maxRecDepth 100000 in
theorem fits_1 (w : World) {kb : Nat} {f : Nat → Int} (hK : IB w kb 32 f) (r : Rw) (th : Nat) (hk : r.kind = 1) (et : r.thread = (th : Int)) (ht : th < 6) (hB : ∀ i, i < 32 → f i + 1 ≤ 9223372036854775807 ∧ -9223372036854775808 ≤ f i) : Calls Try.prog 38 #[.pointer (some ⟨kb, 0, none⟩), .agg r.cells.toArray] w fun e w' => e = .returned (.bool (fitP f r th)) ∧ Keeps (fun _ => False) w w' := by
  obtain ⟨w0, e0, k0, hb, hz0⟩ := rw_box w r
  have hK0 := hK.keep (by decide) k0 (fun e => e)
  have hne : ¬ kb = w.heap.size := fun e => by have := hK.lt (by decide); omega
  obtain ⟨hcl, c0, c1, c2, c3, c4, c5, c6, c7, c8, c11, c13, c17, c21, c25⟩ := hb
  unfold fitP
  rw [hk, if_neg (by decide), if_neg (by omega), if_pos rfl]
  rw [hk] at c5
  have hs := fun W => silent_any W r
  generalize sil r = sl at *
  have d0 := hK0.c (th * 5) (by omega)
  have d1 := hK0.c (th * 5 + 1) (by omega)
  have d2 := hK0.c (th * 5 + 2) (by omega)
  have d3 := hK0.c (th * 5 + 3) (by omega)
  have d4 := hK0.c (th * 5 + 4) (by omega)
  have d30 := hK0.c 30 (by decide)
  have d31 := hK0.c 31 (by decide)
  have hB3 := hB (th * 5 + 1) (by omega)
  have hB4 := hB (th * 5 + 2) (by omega)
  have hB5 := hB 31 (by decide)
  clear hB hK hK0
  generalize f (th * 5) = f0 at *
  generalize f (th * 5 + 1) = f1 at *
  generalize f (th * 5 + 2) = f2 at *
  generalize f (th * 5 + 3) = f3 at *
  generalize f (th * 5 + 4) = f4 at *
  generalize f 30 = f30 at *
  generalize f 31 = f31 at *
  rw [et] at c1
  have i1 : (0 : Int) ≤ (th : Int) := by omega
  have i2 : (th : Int) < 6 := by omega
  have i3 : decide ((th : Int) < 0) = false := decide_eq_false (by omega)
  have i4 : decide ((6 : Int) ≤ (th : Int)) = false := decide_eq_false (by omega)
  have i5 : decide (6 ≤ th) = false := decide_eq_false (by omega)
  have hne2 : ¬ w.heap.size = kb := fun e => hne e.symm
  generalize hz1 : (f0 == 0) = z1
  generalize r.seen = sn at *
  generalize hz2 : (sn == f30) = z2
  generalize hq3 : eq3 r.job r.try_ r.no (f1 + 1) 1 (f31 + 1) = q3
  obtain ⟨W1, hW1⟩ : ∃ W1, W1 = (w0.alloc (.cells #[.int .i64 f0, .int .i64 f1, .int .i64 f2, .int .i64 f3, .int .i64 f4] 109)).drew := ⟨_, rfl⟩
  have k1 : Keeps (fun _ => False) w0 W1 := by rw [hW1]; exact ((Keeps.refl _ w0).alloc _).drew
  have m1 : CL W1 (w.heap.size + 1) [.int .i64 f0, .int .i64 f1, .int .i64 f2, .int .i64 f3, .int .i64 f4] := by rw [hW1, ← hz0]; exact (CL.made w0 _ _).drew
  have hzW : W1.heap.size = w.heap.size + 2 := by rw [hW1]; show (w0.alloc _).heap.size = _; simp [hz0]
  have HW1 : Hid (W1 = (w0.alloc (.cells #[.int .i64 f0, .int .i64 f1, .int .i64 f2, .int .i64 f3, .int .i64 f4] 109)).drew) := hW1
  clear hW1
  go_enter Try.func38, Try.ntmps38
  refine wp_seq_k (fun KK hKK => ?_)
  have hKH : Hid _ := hKK
  clear hKK
  go_wp2_with fail
  refine hKH.out _ _ ?_
  clear hKH KK
  rw [← e0]
  clear e0
  go_wp2_with fail
  go_region_held3 (fun w' => w'.cell? ⟨w.heap.size, 1, none⟩ = some (.int .i64 (th : Int)) ∧ w'.cell? ⟨kb, th * 5, none⟩ = some (.int .i64 f0) ∧ w'.cell? ⟨kb, th * 5 + 1, none⟩ = some (.int .i64 f1) ∧ w'.cell? ⟨kb, th * 5 + 2, none⟩ = some (.int .i64 f2) ∧ w'.cell? ⟨kb, th * 5 + 3, none⟩ = some (.int .i64 f3) ∧ w'.cell? ⟨kb, th * 5 + 4, none⟩ = some (.int .i64 f4)) (go_keep) (fail)
  rw [← HW1.out]
  clear HW1
  rename_i hHeld
  clear hHeld
  have hcl := hcl.keep (by show 0 < 26; decide) k1 (fun e => e)
  have c1 := k1.cell c1 (fun e => e)
  have c5 := k1.cell c5 (fun e => e)
  have c11 := k1.cell c11 (fun e => e)
  have d30 := k1.cell d30 (fun e => e)
  have d31 := k1.cell d31 (fun e => e)
  have e0 := m1.c 0 _ rfl
  have e1 := m1.c 1 _ rfl
  have e2 := m1.c 2 _ rfl
  have e3 := m1.c 3 _ rfl
  have e4 := m1.c 4 _ rfl
  have K1 := k0.trans k1
  clear k0 k1
  obtain ⟨W2, hW2⟩ : ∃ W2, W2 = (W1.alloc (.cells #[.int .i64 (f1 + 1), .int .i64 1, .int .i64 (f31 + 1)] 107)).drew := ⟨_, rfl⟩
  have k2 : Keeps (fun _ => False) W1 W2 := by rw [hW2]; exact ((Keeps.refl _ W1).alloc _).drew
  have m2 : CL W2 (w.heap.size + 2) [.int .i64 (f1 + 1), .int .i64 1, .int .i64 (f31 + 1)] := by rw [hW2, ← hzW]; exact (CL.made W1 _ _).drew
  have HW2 : Hid (W2 = (W1.alloc (.cells #[.int .i64 (f1 + 1), .int .i64 1, .int .i64 (f31 + 1)] 107)).drew) := hW2
  clear hW2
  have v1 : IntKind.i64.wrap (f1 + 1) = f1 + 1 := by rw [IntKind.wrap_i64]; omega
  have v31 : IntKind.i64.wrap (f31 + 1) = f31 + 1 := by rw [IntKind.wrap_i64]; omega
  go_wp2_with fail
  go_region_held3 (fun w' => w'.cell? ⟨w.heap.size + 1, 1, none⟩ = some (.int .i64 f1) ∧ w'.cell? ⟨kb, 31, none⟩ = some (.int .i64 f31)) (go_keep) (fail)
  try rw [v1]
  try rw [v31]
  rw [← HW2.out]
  clear HW2
  rename_i hHeld
  clear hHeld
  have hcl := hcl.keep (by show 0 < 26; decide) k2 (fun e => e)
  have c11 := ks_cell (k2.cell c11 (fun e => e))
  have d30 := ks_cell (k2.cell d30 (fun e => e))
  have e0 := ks_cell (k2.cell e0 (fun e => e))
  have g0 := ks_cell (m2.c 0 _ rfl)
  have g1 := ks_cell (m2.c 1 _ rfl)
  have g2 := ks_cell (m2.c 2 _ rfl)
  have KK := K1.trans k2
  clear k2 m2 K1
  have HR : Hid (∀ w', (∃ u : KS W2, w' = u.1) → (loadVar 50 ⟨w.heap.size, 0, none⟩).run Try.prog w' = .ok (.agg r.cells.toArray) w') := by
    rintro _ ⟨u, rfl⟩
    exact run_rw (hcl.keep (by show 0 < 26; decide) u.property (fun e => e))
  have hNE : Nonempty (KS W2) := ⟨⟨W2, Keeps.refl _ W2⟩⟩
  have HE : Hid (∀ w, (Op.equalIn 10000 107 (.agg #[.int .i64 r.job, .int .i64 r.try_, .int .i64 r.no]) (.agg #[.int .i64 (f1 + 1), .int .i64 1, .int .i64 (f31 + 1)])).run Try.prog w = .ok q3 w) := fun w => by rw [← hq3]; exact eql_who w _ _ _ _ _ _
  clear hq3
  cases z1
  · go_wp2_with fail
    refine wp_region_ks (by kernel_rfl) (by kernel_rfl) ?_
    (repeat (first | go_big_quiet_skip | (refine wpQuiet_load (by kernel_rfl) 50 _ rfl ⟨w.heap.size, 0, none⟩ rfl _ HR.out ?_; (try simp only [Act.put, List.setIfInBounds_toArray, List.set_cons_zero, List.set_cons_succ])) | (refine wpQuiet_eql (by kernel_rfl) 107 _ _ _ rfl _ _ rfl rfl _ (by kernel_rfl) HE.out ?_; (try simp only [Act.put, List.setIfInBounds_toArray, List.set_cons_zero, List.set_cons_succ])) | (go_big_quiet_step ((go_at_call 53; refine (whoOf_any _ r).mono ?_; rintro e w9 ⟨rfl, k9⟩; exact ⟨rfl, ⟨_, (KS.property _).trans k9⟩, rfl⟩)))))
    refine wpQuiet_nil ?_
    rintro _ ⟨u, rfl⟩
    have ku := KK.trans u.property
    generalize u.val = wu at *
    go_wp2
    go_ret
    exact ⟨rfl, ku⟩
  cases q3
  · go_wp2_with fail
    refine wp_region_ks (by kernel_rfl) (by kernel_rfl) ?_
    (repeat (first | go_big_quiet_skip | (refine wpQuiet_load (by kernel_rfl) 50 _ rfl ⟨w.heap.size, 0, none⟩ rfl _ HR.out ?_; (try simp only [Act.put, List.setIfInBounds_toArray, List.set_cons_zero, List.set_cons_succ])) | (refine wpQuiet_eql (by kernel_rfl) 107 _ _ _ rfl _ _ rfl rfl _ (by kernel_rfl) HE.out ?_; (try simp only [Act.put, List.setIfInBounds_toArray, List.set_cons_zero, List.set_cons_succ])) | (go_big_quiet_step (first | (go_at_call 53; refine (whoOf_any _ r).mono ?_; rintro e w9 ⟨rfl, k9⟩; exact ⟨rfl, ⟨_, (KS.property _).trans k9⟩, rfl⟩) | (go_at_call 52; refine (hs _).mono ?_; rintro e w9 ⟨rfl, k9⟩; exact ⟨rfl, ⟨_, (KS.property _).trans k9⟩, rfl⟩)))))
    refine wpQuiet_nil ?_
    rintro _ ⟨u, rfl⟩
    have ku := KK.trans u.property
    generalize u.val = wu at *
    go_wp2
    go_ret
    exact ⟨rfl, ku⟩
  cases z2
  · go_wp2_with fail
    refine wp_region_ks (by kernel_rfl) (by kernel_rfl) ?_
    (repeat (first | go_big_quiet_skip | (refine wpQuiet_load (by kernel_rfl) 50 _ rfl ⟨w.heap.size, 0, none⟩ rfl _ HR.out ?_; (try simp only [Act.put, List.setIfInBounds_toArray, List.set_cons_zero, List.set_cons_succ])) | (refine wpQuiet_eql (by kernel_rfl) 107 _ _ _ rfl _ _ rfl rfl _ (by kernel_rfl) HE.out ?_; (try simp only [Act.put, List.setIfInBounds_toArray, List.set_cons_zero, List.set_cons_succ])) | (go_big_quiet_step (first | (go_at_call 53; refine (whoOf_any _ r).mono ?_; rintro e w9 ⟨rfl, k9⟩; exact ⟨rfl, ⟨_, (KS.property _).trans k9⟩, rfl⟩) | (go_at_call 52; refine (hs _).mono ?_; rintro e w9 ⟨rfl, k9⟩; exact ⟨rfl, ⟨_, (KS.property _).trans k9⟩, rfl⟩)))))
    refine wpQuiet_nil ?_
    rintro _ ⟨u, rfl⟩
    have ku := KK.trans u.property
    generalize u.val = wu at *
    go_wp2
    go_ret
    exact ⟨rfl, ku⟩
  go_wp2_with fail
  refine wp_region_ks (by kernel_rfl) (by kernel_rfl) ?_
  (repeat (first | go_big_quiet_skip | (refine wpQuiet_load (by kernel_rfl) 50 _ rfl ⟨w.heap.size, 0, none⟩ rfl _ HR.out ?_; (try simp only [Act.put, List.setIfInBounds_toArray, List.set_cons_zero, List.set_cons_succ])) | (refine wpQuiet_eql (by kernel_rfl) 107 _ _ _ rfl _ _ rfl rfl _ (by kernel_rfl) HE.out ?_; (try simp only [Act.put, List.setIfInBounds_toArray, List.set_cons_zero, List.set_cons_succ])) | (go_big_quiet_step (first | (go_at_call 53; refine (whoOf_any _ r).mono ?_; rintro e w9 ⟨rfl, k9⟩; exact ⟨rfl, ⟨_, (KS.property _).trans k9⟩, rfl⟩) | (go_at_call 52; refine (hs _).mono ?_; rintro e w9 ⟨rfl, k9⟩; exact ⟨rfl, ⟨_, (KS.property _).trans k9⟩, rfl⟩)))))
  refine wpQuiet_nil ?_
  rintro _ ⟨u, rfl⟩
  have ku := KK.trans u.property
  generalize u.val = wu at *
  go_wp2
  go_ret
  exact ⟨rfl, ku⟩
end Go.Proofs.Ytmnmphkkcabkiaa

