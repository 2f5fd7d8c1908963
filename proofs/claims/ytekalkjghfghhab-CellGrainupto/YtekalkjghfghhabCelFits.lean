import Derived.Test.YtekalkjghfghhabCelThen
namespace Go.Proofs.Ytekalkjghfghhab
open Go.RowKit

theorem place_ks (w : World) (q : Ac) : Calls Try.prog 13 #[.agg #[.int .i64 q.kind, .int .i64 q.c, .int .i64 q.x, .int .i64 q.y]] w fun e w' => e = .returned (.int .i64 (pl q.c : Int)) ∧ Keeps (fun _ => False) w w' :=
  (place_any w q).mono fun _ _ ⟨e, h⟩ => ⟨e, by rw [h]; exact (Keeps.refl _ w).alloc _⟩
theorem kind_ks (w : World) (q : Ac) : Calls Try.prog 25 #[.agg #[.int .i64 q.kind, .int .i64 q.c, .int .i64 q.x, .int .i64 q.y]] w fun e w' => e = .returned (.int .i64 q.kd) ∧ Keeps (fun _ => False) w w' :=
  (kind_any w q).mono fun _ _ ⟨e, h⟩ => ⟨e, by rw [h]; exact (Keeps.refl _ w).alloc _⟩

set_option maxHeartbeats 3200000 in
set_option maxRecDepth 1000000 in
/-- A row that fits. -/
theorem fits_any (w : World) (q : Ac) (step thread seen : Int) :
    Calls Try.prog 15 #[.agg #[.int .i64 step, .int .i64 thread, .int .i64 q.kd, .int .i64 (pl q.c : Int), .int .i64 seen, .int .i64 (q.wrote seen), .bool (q.done seen)], .agg #[.int .i64 q.kind, .int .i64 q.c, .int .i64 q.x, .int .i64 q.y], .int .i64 step, .int .i64 thread, .int .i64 seen, .int .i64 (q.said seen)] w fun e w' =>
      e = .returned (.bool true) ∧ Keeps (fun _ => False) w w' := by
  obtain ⟨kd, hkd⟩ : ∃ kd, Hid (q.kd = kd) := ⟨_, rfl⟩
  obtain ⟨wt, hwt⟩ : ∃ x, Hid (q.wrote seen = x) := ⟨_, rfl⟩
  obtain ⟨dn, hdn⟩ : ∃ x, Hid (q.done seen = x) := ⟨_, rfl⟩
  obtain ⟨sd, hsd⟩ : ∃ x, Hid (q.said seen = x) := ⟨_, rfl⟩
  have hkk := fun W => kind_ks W q
  rw [hkd.out] at hkk
  rw [hkd.out, hwt.out, hdn.out, hsd.out]
  obtain ⟨w0, hw0⟩ : ∃ w0, w0 = (w.alloc (.cells #[.int .i64 step, .int .i64 thread, .int .i64 kd, .int .i64 (pl q.c : Int), .int .i64 seen, .int .i64 wt, .bool dn] 39)).alloc (.cells #[.int .i64 q.kind, .int .i64 q.c, .int .i64 q.x, .int .i64 q.y] 27) := ⟨_, rfl⟩
  have K0 : Keeps (fun _ => False) w w0 := by rw [hw0]; exact ((Keeps.refl _ w).alloc _).alloc _
  have R : RowAt w0 w.heap.size 0 ⟨step, thread, kd, (pl q.c : Int), seen, wt, dn⟩ := by
    rw [hw0]
    refine RowAt.keep (w := w.alloc (.cells #[.int .i64 step, .int .i64 thread, .int .i64 kd, .int .i64 (pl q.c : Int), .int .i64 seen, .int .i64 wt, .bool dn] 39)) ?_ ((Keeps.refl (fun _ => False) _).alloc _) (fun e => e)
    constructor <;> simp
  have ha : ∀ i v, (#[.int .i64 q.kind, .int .i64 q.c, .int .i64 q.x, .int .i64 q.y] : Array Value)[i]? = some v → w0.cell? ⟨w.heap.size + 1, i, none⟩ = some v := fun i v hv => by
    rw [hw0, World.cell?_alloc_at _ _ _ _ (by simp)]; exact hv
  have a0 := ha 0 _ rfl
  have a1 := ha 1 _ rfl
  have a2 := ha 2 _ rfl
  have a3 := ha 3 _ rfl
  have r0 := R.r0
  have r1 := R.r1
  have r2 := R.r2
  have r3 := R.r3
  have r4 := R.r4
  have r5 := R.r5
  have r6 := R.r6
  simp only [Nat.zero_add] at r0 r1 r2 r3 r4 r5 r6
  clear R ha
  go_enter Try.func15, Try.ntmps15
  go_wp2_with fail
  (try simp only [World.size_alloc])
  rw [← hw0]
  clear hw0
  have A0 := ks_cell a0
  have A1 := ks_cell a1
  have A2 := ks_cell a2
  have A3 := ks_cell a3
  have R0 := ks_cell r0
  have R1 := ks_cell r1
  have R2 := ks_cell r2
  have R3 := ks_cell r3
  have R4 := ks_cell r4
  have R5 := ks_cell r5
  have R6 := ks_cell r6
  clear a0 a1 a2 a3 r0 r1 r2 r3 r4 r5 r6
  have hNE : Nonempty (KS w0) := ⟨⟨w0, Keeps.refl _ w0⟩⟩
  generalize hpc : pl q.c = pc at *
  have hpl : ∀ W, Calls Try.prog 13 #[.agg #[.int .i64 q.kind, .int .i64 q.c, .int .i64 q.x, .int .i64 q.y]] W fun e w' => e = .returned (.int .i64 (pc : Int)) ∧ Keeps (fun _ => False) W w' := fun W => hpc ▸ place_ks W q
  refine wp_region_ks (by kernel_rfl) (by kernel_rfl) ?_
  repeat (go_big_quiet_step (first | (go_at_call 25; refine (hkk _).mono ?_; rintro e w2 ⟨rfl, k2⟩; exact ⟨rfl, ⟨_, Keeps.trans (KS.property _) k2⟩, rfl⟩) | (go_at_call 13; refine (hpl _).mono ?_; rintro e w2 ⟨rfl, k2⟩; exact ⟨rfl, ⟨_, Keeps.trans (KS.property _) k2⟩, rfl⟩)))
  refine wpQuiet_nil ?_
  rintro _ ⟨u, rfl⟩
  have KU : Keeps (fun _ => False) w u.val := K0.trans u.property
  have B2 := A2 u
  have B3 := A3 u
  have S2 := R2 u
  have S4 := R4 u
  have S5 := R5 u
  have S6 := R6 u
  generalize u.val = W at *
  clear A0 A1 A2 A3 R0 R1 R2 R3 R4 R5 R6 hNE hkk hpl
  by_cases h2 : q.kind = 2
  · have e1 : kd = 2 := by rw [← hkd.out]; simp [Ac.kd, h2]
    subst e1
    by_cases hx : seen = q.x
    · have e2 : wt = q.y := by rw [← hwt.out]; simp [Ac.wrote, h2, hx]
      have e3 : dn = true := by rw [← hdn.out]; simp [Ac.done, h2, hx]
      have e4 : sd = 1 := by rw [← hsd.out]; simp [Ac.said, h2, hx]
      subst e2 e3 e4
      have hx' : (q.x == seen) = true := by simp [hx]
      clear hwt hdn hsd hkd h2 hx
      go_wp2_with fail
      go_ret
      exact ⟨rfl, KU⟩
    · have e2 : wt = seen := by rw [← hwt.out]; simp [Ac.wrote, h2, hx]
      have e3 : dn = false := by rw [← hdn.out]; simp [Ac.done, h2, hx]
      have e4 : sd = 0 := by rw [← hsd.out]; simp [Ac.said, h2, hx]
      subst e2 e3 e4
      have hx' : (q.x == wt) = false := by simp [Ne.symm hx]
      clear hwt hdn hsd hkd h2 hx
      go_wp2_with fail
      go_ret
      exact ⟨rfl, KU⟩
  · by_cases h3 : q.kind = 3
    · have e1 : kd = 3 := by rw [← hkd.out]; simp [Ac.kd, h3]
      have e2 : wt = wrap64 (seen + q.x) := by rw [← hwt.out]; simp [Ac.wrote, h3]
      have e3 : dn = true := by rw [← hdn.out]; simp [Ac.done, h2]
      have e4 : sd = seen := by rw [← hsd.out]; simp [Ac.said, h2]
      subst e1 e2 e3 e4
      clear hwt hdn hsd hkd h2 h3
      go_wp2_with fail
      go_ret
      exact ⟨rfl, KU⟩
    · have e1 : kd = 1 := by rw [← hkd.out]; simp [Ac.kd, h2, h3]
      have e2 : wt = seen := by rw [← hwt.out]; simp [Ac.wrote, h2, h3]
      have e3 : dn = true := by rw [← hdn.out]; simp [Ac.done, h2]
      have e4 : sd = seen := by rw [← hsd.out]; simp [Ac.said, h2]
      subst e1 e2 e3 e4
      clear hwt hdn hsd hkd h2 h3
      go_wp2_with fail
      go_ret
      exact ⟨rfl, KU⟩
end Go.Proofs.Ytekalkjghfghhab
