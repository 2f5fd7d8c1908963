import Derived.Test.YtkebpelpjkgdkabAsks
import Derived.Deep.RegionHeld3
namespace Go.Proofs.Ytkebpelpjkgdkab
open Go.RowKit Go.Maps

theorem wrap_i64' (n : Int) : I64 (wrap64 n) := by unfold I64 wrap64; omega
theorem wrap_i64'' (n : Int) : I64 (IntKind.i64.wrap n) := by
  rw [IntKind.wrap_i64]; unfold I64; omega
/-- The key of the i-th. -/
def kv (y i : Int) : Int := (wrap64 (wrap64 (i * 7919) + y)).tmod 1009
theorem kv_i64 (y i : Int) : I64 (kv y i) := by
  unfold kv I64
  have h1 := Int.tmod_lt_of_pos (wrap64 (wrap64 (i * 7919) + y)) (show (0 : Int) < 1009 by decide)
  have h2 := Int.lt_tmod_of_pos (wrap64 (wrap64 (i * 7919) + y)) (show (0 : Int) < 1009 by decide)
  omega

section
variable {w : World} {qo : Option Nat} {rb : Nat} {F : List Nat}

set_option maxHeartbeats 3200000 in
set_option maxRecDepth 1000000 in
theorem fkey_any (w : World) (k q x y : Int) (i : Int) :
    Calls Try.prog 53 #[.agg #[.int .i64 k, .int .i64 q, .int .i64 x, .int .i64 y], .int .i64 i] w fun e w' => e = .returned (.int .i64 (kv y i)) ∧ w' = w.alloc (.cells #[.int .i64 k, .int .i64 q, .int .i64 x, .int .i64 y] 42) := by
  go_enter Try.func53, Try.ntmps53
  go_wp2_with fail
  go_ret
  exact ⟨rfl, rfl⟩

theorem fkey9 (q x y : Int) (i : Int) : ∃ n : Int, I64 n ∧ ∀ w : World, Calls Try.prog 53 #[.agg #[.int .i64 9, .int .i64 q, .int .i64 x, .int .i64 y], .int .i64 i] w fun e w' => e = .returned (.int .i64 n) ∧ w' = w.alloc (.cells #[.int .i64 9, .int .i64 q, .int .i64 x, .int .i64 y] 42) :=
  ⟨kv y i, kv_i64 y i, fun w => fkey_any w 9 q x y i⟩

set_option maxHeartbeats 3200000 in
set_option maxRecDepth 1000000 in
theorem fill_any (h : Pair w qo rb F) (k q x y : Int) :
    Calls Try.prog 41 #[qp qo, .pointer (some ⟨rb, 0, none⟩), .agg #[.int .i64 k, .int .i64 q, .int .i64 x, .int .i64 y]] w fun e w' => e = .returned (.bool true) ∧ ∃ F', Pair w' qo rb F' ∧ Left w w' F F' := by
  obtain ⟨w0, hw0⟩ : ∃ w0, w0 = w.alloc (.cells #[.int .i64 k, .int .i64 q, .int .i64 x, .int .i64 y] 42) := ⟨_, rfl⟩
  have K0 : Keeps (fun _ => False) w w0 := by rw [hw0]; exact (Keeps.refl _ w).alloc _
  have b0 : w0.cell? ⟨w.heap.size, 0, none⟩ = some (.int .i64 k) := by rw [hw0]; simp
  have b1 : w0.cell? ⟨w.heap.size, 1, none⟩ = some (.int .i64 q) := by rw [hw0]; simp
  have b2 : w0.cell? ⟨w.heap.size, 2, none⟩ = some (.int .i64 x) := by rw [hw0]; simp
  have b3 : w0.cell? ⟨w.heap.size, 3, none⟩ = some (.int .i64 y) := by rw [hw0]; simp
  have h0 := h.keep K0 (fun _ _ e => e)
  have nF : w.heap.size ∉ F := fun e => by have := h.lt _ e; omega
  go_enter Try.func41, Try.ntmps41
  go_wp2_with fail
  rw [← hw0]
  clear hw0
  obtain ⟨ob, hob⟩ : ∃ ob, w.heap.size = ob := ⟨_, rfl⟩
  rw [hob] at b0 b1 b2 b3 nF ⊢
  have HB : Hid (w.heap.size = ob) := hob
  clear hob
  go_loopw [7] (fun iv wr => ∃ (i : Nat) (F' : List Nat), i ≤ 4200 ∧ iv = .int .i64 i ∧ Pair wr qo rb F' ∧ Left w0 wr F F') (fun iv _ => 4200 - (intOf iv).toNat)
  case atStart => exact ⟨0, F, by omega, rfl, h0, Left.refl _ _⟩
  case round =>
    obtain ⟨i, F', hi, rfl, hp, hlf⟩ := hrel
    have c0 := hlf.keeps.cell b0 nF
    have c1 := hlf.keeps.cell b1 nF
    have c2 := hlf.keeps.cell b2 nF
    have c3 := hlf.keeps.cell b3 nF
    clear b0 b1 b2 b3
    by_cases hlt : (i : Int) < x
    · by_cases hlm : i < 4200
      · have hmI : (i : Int) < 4200 := by omega
        by_cases h9 : k = 9
        · subst h9
          go_wp2_with fail
          have m64 : I64 (IntKind.i64.wrap (y + (i : Int))) := wrap_i64'' _
          have fk := fkey9 q x y i
          obtain ⟨n, n64, fk⟩ := fk
          go_region_held3 (fun w' => w'.cell? ⟨ob, 0, none⟩ = some (.int .i64 9) ∧ w'.cell? ⟨ob, 1, none⟩ = some (.int .i64 q) ∧ w'.cell? ⟨ob, 2, none⟩ = some (.int .i64 x) ∧ w'.cell? ⟨ob, 3, none⟩ = some (.int .i64 y)) (go_keep) ((go_at_call 53; refine (fk _).mono ?_; rintro e w2 ⟨rfl, rfl⟩))
          all_goals
            generalize IntKind.i64.wrap (y + (i : Int)) = m at m64 ⊢
            clear c0 c1 c2 c3
          · obtain ⟨wa, hwa⟩ : ∃ wa, World.drew ((wr.alloc (.cells #[.int .i64 9, .int .i64 q, .int .i64 x, .int .i64 y] 42)).alloc (.cells #[.int .i64 n, .int .i64 m] 32)) = wa := ⟨_, rfl⟩
            have KA : Keeps (fun _ => False) wr wa := by rw [← hwa]; exact (((Keeps.refl _ wr).alloc _).alloc _).drew
            have x0 : wa.cell? ⟨wr.heap.size + 1, 0, none⟩ = some (.int .i64 n) := by rw [← hwa]; simp
            have x1 : wa.cell? ⟨wr.heap.size + 1, 1, none⟩ = some (.int .i64 m) := by rw [← hwa]; simp
            have nX : wr.heap.size + 1 ∉ F' := fun e => by have := hp.lt _ e; omega
            obtain ⟨bx, hbx⟩ : ∃ bx, wr.heap.size + 1 = bx := ⟨_, rfl⟩
            rw [hbx] at x0 x1 nX
            simp only [hwa, hbx]
            clear hwa hbx
            go_wp2_with fail
            refine (p_add (hp.keep KA (fun _ _ e => e)) (n, m) ⟨n64, m64⟩).mono ?_
            rintro e w1 ⟨r, rfl, kq, aft⟩
            have y0 := kq.cell x0 nX
            have y1 := kq.cell x1 nX
            clear x0 x1
            go_wp2_with fail
            refine (aft w1 (Keeps.refl _ w1)).mono ?_
            rintro e w2 ⟨rfl, ⟨F2, pr, lf⟩, hc⟩
            have LL := (hlf.trans (Left.new KA)).trans lf
            have hne : (r != r) = false := by simp
            clear hc aft y0 y1 kq lf
            go_wp2_with fail
            refine (num_any _ _).mono ?_
            rintro e w4 ⟨rfl, rfl⟩
            go_wp2_with fail
            go_roundw
            case rel => exact ⟨i + 1, F2, by omega, by go_num, pr, LL⟩
            case measure => simp [intOf]; omega
          · obtain ⟨wa, hwa⟩ : ∃ wa, World.drew ((wr.alloc (.cells #[.int .i64 n, .int .i64 m] 32)).alloc (.cells #[.int .i64 9, .int .i64 q, .int .i64 x, .int .i64 y] 42)) = wa := ⟨_, rfl⟩
            have KA : Keeps (fun _ => False) wr wa := by rw [← hwa]; exact (((Keeps.refl _ wr).alloc _).alloc _).drew
            have x0 : wa.cell? ⟨wr.heap.size, 0, none⟩ = some (.int .i64 n) := by rw [← hwa]; simp
            have x1 : wa.cell? ⟨wr.heap.size, 1, none⟩ = some (.int .i64 m) := by rw [← hwa]; simp
            have nX : wr.heap.size ∉ F' := fun e => by have := hp.lt _ e; omega
            obtain ⟨bx, hbx⟩ : ∃ bx, wr.heap.size = bx := ⟨_, rfl⟩
            rw [hbx] at x0 x1 nX
            simp only [hwa, hbx]
            clear hwa hbx
            go_wp2_with fail
            refine (p_add (hp.keep KA (fun _ _ e => e)) (n, m) ⟨n64, m64⟩).mono ?_
            rintro e w1 ⟨r, rfl, kq, aft⟩
            have y0 := kq.cell x0 nX
            have y1 := kq.cell x1 nX
            clear x0 x1
            go_wp2_with fail
            refine (aft w1 (Keeps.refl _ w1)).mono ?_
            rintro e w2 ⟨rfl, ⟨F2, pr, lf⟩, hc⟩
            have LL := (hlf.trans (Left.new KA)).trans lf
            have hne : (r != r) = false := by simp
            clear hc aft y0 y1 kq lf
            go_wp2_with fail
            refine (num_any _ _).mono ?_
            rintro e w4 ⟨rfl, rfl⟩
            go_wp2_with fail
            go_roundw
            case rel => exact ⟨i + 1, F2, by omega, by go_num, pr, LL⟩
            case measure => simp [intOf]; omega
        · have n9 : (k == 9) = false := by simp [h9]
          go_wp2_with fail
          refine (p_take hp).mono ?_
          rintro e w1 ⟨z, n, rfl, kq, aft⟩
          have x0 : (w1.alloc (.cells #[.int .i64 z.1, .int .i64 z.2] 32)).cell? ⟨w1.heap.size, 0, none⟩ = some (.int .i64 z.1) := by simp
          have x1 : (w1.alloc (.cells #[.int .i64 z.1, .int .i64 z.2] 32)).cell? ⟨w1.heap.size, 1, none⟩ = some (.int .i64 z.2) := by simp
          clear c0 c1 c2 c3
          go_wp2_with fail
          refine (aft _ ((Keeps.refl _ w1).alloc _)).mono ?_
          rintro e w2 ⟨rfl, ⟨F2, pr, lf⟩, hc⟩
          have a0 := hc _ _ _ (Nat.le_refl _) x0
          have a1 := hc _ _ _ (Nat.le_refl _) x1
          have K3 : Keeps (fun _ => False) w2 (w2.alloc (.cells #[.int .i64 z.1, .int .i64 z.2] 32)) := (Keeps.refl _ w2).alloc _
          have e0 := K3.cell a0 (fun e => e)
          have e1 := K3.cell a1 (fun e => e)
          have d0 : (w2.alloc (.cells #[.int .i64 z.1, .int .i64 z.2] 32)).cell? ⟨w2.heap.size, 0, none⟩ = some (.int .i64 z.1) := by simp
          have d1 : (w2.alloc (.cells #[.int .i64 z.1, .int .i64 z.2] 32)).cell? ⟨w2.heap.size, 1, none⟩ = some (.int .i64 z.2) := by simp
          obtain ⟨w3, hw3⟩ : ∃ w3, w2.alloc (.cells #[.int .i64 z.1, .int .i64 z.2] 32) = w3 := ⟨_, rfl⟩
          rw [hw3] at K3 e0 e1 d0 d1
          clear x0 x1 a0 a1 hc aft kq
          have LL := (hlf.trans lf).trans (Left.new K3)
          have P3 := pr.keep K3 (fun _ _ e => e)
          go_wp2_with fail
          refine (num_any _ _).mono ?_
          rintro e w4 ⟨rfl, rfl⟩
          go_wp2_with fail
          go_roundw
          case rel => exact ⟨i + 1, F2, by omega, by go_num, P3, LL⟩
          case measure => simp [intOf]; omega
      · have hmI : decide ((i : Int) < 4200) = false := by simp; omega
        go_wp2
        go_ret
        exact ⟨rfl, F', hp, (Left.new K0).trans hlf⟩
    · have hmI : decide ((i : Int) < x) = false := by simp; omega
      go_wp2
      go_ret
      exact ⟨rfl, F', hp, (Left.new K0).trans hlf⟩
end
end Go.Proofs.Ytkebpelpjkgdkab
