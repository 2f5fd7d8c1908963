import Derived.Test.YtgfjhogogajbjabSchNew
namespace Go.Proofs.Ytgfjhogogajbjab
open Go.RowKit Go.Shelf

theorem PL.keeps {S : Nat → Prop} {w w' : World} {pb : Nat} {vs : Value} {nt m : Nat} {f : Nat → Int} {at_ : Nat} {fin : Nat → Bool} (h : PL w pb vs nt m f at_ fin) (k : Keeps S w w') (h1 : ¬ S pb) (h2 : ∀ g, vs.ownBlock = some g → ¬ S g) : PL w' pb vs nt m f at_ fin :=
  have hl := World.block_lt_of_cell? _ _ h.c0
  ⟨k.cell h.c0 h1, k.cell h.c1 h1, k.cell h.c2 h1, fun t ht => k.cell (h.cf t ht) h1, fun t ht => (k.frozen (p := ⟨pb, t, none⟩) hl h1).trans (h.zz t ht), k.owns h.nm h2, h.ne⟩
theorem PL.new {w w' : World} {pb : Nat} {vs : Value} {nt m : Nat} {f : Nat → Int} {at_ : Nat} {fin : Nat → Bool} (h : PL w pb vs nt m f at_ fin) (k : Keeps (fun _ => False) w w') : PL w' pb vs nt m f at_ fin := h.keeps k (fun e => e) (fun _ _ e => e)
theorem PL.lt {w : World} {pb : Nat} {vs : Value} {nt m : Nat} {f : Nat → Int} {at_ : Nat} {fin : Nat → Bool} (h : PL w pb vs nt m f at_ fin) : pb < w.heap.size := World.block_lt_of_cell? _ _ h.c0
/-- A thread is finished. -/
def upd (fin : Nat → Bool) (t u : Nat) : Bool := if u = t then true else fin u
theorem PL.finish {w : World} {pb : Nat} {vs : Value} {nt m : Nat} {f : Nat → Int} {at_ : Nat} {fin : Nat → Bool} (h : PL w pb vs nt m f at_ fin) {t : Nat} (ht : t < 6) : PL (w.setCell ⟨pb, 3 + t, none⟩ (.bool true)) pb vs nt m f at_ (upd fin t) where
  c0 := by rw [World.cell?_setCell_other (h := by simp)]; exact h.c0
  c1 := by rw [World.cell?_setCell_other (h := fun e' => by simp only [Addr.mk.injEq] at e'; omega)]; exact h.c1
  c2 := by rw [World.cell?_setCell_other (h := fun e' => by simp only [Addr.mk.injEq] at e'; omega)]; exact h.c2
  cf u hu := by
    unfold upd
    by_cases e : u = t
    · subst e; rw [if_pos rfl]; exact World.cell?_setCell_same (h := h.cf u hu) ..
    · rw [if_neg e, World.cell?_setCell_other (h := fun e' => e (by simp only [Addr.mk.injEq] at e'; omega))]; exact h.cf u hu
  zz u hu := by rw [World.frozen?_setCell]; exact h.zz u hu
  nm := owns_same h.nm (fun g e => Below.heap_setCell w ⟨pb, 3 + t, none⟩ _ g (h.ne g e))
  ne := h.ne
theorem PL.step {w : World} {pb : Nat} {vs : Value} {nt m : Nat} {f : Nat → Int} {at_ : Nat} {fin : Nat → Bool} (h : PL w pb vs nt m f at_ fin) : PL (w.setCell ⟨pb, 2, none⟩ (.int .i64 ((at_ + 1 : Nat) : Int))) pb vs nt m f (at_ + 1) fin where
  c0 := by rw [World.cell?_setCell_other (h := by simp)]; exact h.c0
  c1 := by rw [World.cell?_setCell_other (h := by simp)]; exact h.c1
  c2 := World.cell?_setCell_same (h := h.c2) ..
  cf u hu := by rw [World.cell?_setCell_other (h := fun e' => by simp only [Addr.mk.injEq] at e'; omega)]; exact h.cf u hu
  zz u hu := by rw [World.frozen?_setCell]; exact h.zz u hu
  nm := owns_same h.nm (fun g e => Below.heap_setCell w ⟨pb, 2, none⟩ _ g (h.ne g e))
  ne := h.ne

section
variable {w : World} {pb : Nat} {vs : Value} {nt m : Nat} {f : Nat → Int} {at_ : Nat} {fin : Nat → Bool}

set_option maxHeartbeats 1600000 in
set_option maxRecDepth 1000000 in
theorem left_any (h : PL w pb vs nt m f at_ fin) (ha : at_ ≤ m) (hm : m ≤ 4096) : Calls Try.prog 8 #[.pointer (some ⟨pb, 0, none⟩)] w fun e w' => e = .returned (.int .i64 ((m : Int) - (at_ : Int))) ∧ Keeps (fun _ => False) w w' := by
  obtain ⟨a, cap, rfl⟩ := owns_form h.nm
  have c1 := h.c1
  have c2 := h.c2
  clear h
  go_enter Try.func8, Try.ntmps8
  go_wp2
  go_region
  go_wp2
  go_ret
  exact ⟨rfl, (Keeps.refl _ w).drew⟩
set_option maxHeartbeats 1600000 in
set_option maxRecDepth 1000000 in
theorem left_nil (w : World) : Calls Try.prog 8 #[.pointer none] w fun e w' => e = .returned (.int .i64 0) ∧ w' = w := by
  go_enter Try.func8, Try.ntmps8
  go_wp2
  go_ret
  exact ⟨rfl, rfl⟩
set_option maxHeartbeats 1600000 in
set_option maxRecDepth 1000000 in
theorem has_any (h : PL w pb vs nt m f at_ fin) (t : Int) : Calls Try.prog 24 #[.pointer (some ⟨pb, 0, none⟩), .int .i64 t] w fun e w' => e = .returned (.bool (decide (0 ≤ t ∧ t < nt))) ∧ w' = w := by
  have c0 := h.c0
  clear h
  by_cases h0 : 0 ≤ t
  · by_cases h1 : t < nt
    · have e : decide (0 ≤ t ∧ t < nt) = true := decide_eq_true ⟨h0, h1⟩
      rw [e]; clear e
      go_enter Try.func24, Try.ntmps24
      go_wp2
      go_ret
      exact ⟨rfl, rfl⟩
    · have e : decide (0 ≤ t ∧ t < nt) = false := decide_eq_false (fun e => h1 e.2)
      rw [e]; clear e
      go_enter Try.func24, Try.ntmps24
      go_wp2
      go_ret
      exact ⟨rfl, rfl⟩
  · have e : decide (0 ≤ t ∧ t < nt) = false := decide_eq_false (fun e => h0 e.1)
    rw [e]; clear e
    go_enter Try.func24, Try.ntmps24
    go_wp2
    go_ret
    exact ⟨rfl, rfl⟩
set_option maxHeartbeats 1600000 in
set_option maxRecDepth 1000000 in
theorem has_nil (w : World) (t : Int) : Calls Try.prog 24 #[.pointer none, .int .i64 t] w fun e w' => e = .returned (.bool false) ∧ w' = w := by
  go_enter Try.func24, Try.ntmps24
  go_wp2
  go_ret
  exact ⟨rfl, rfl⟩

set_option maxHeartbeats 1600000 in
set_option maxRecDepth 1000000 in
theorem finish_any (h : PL w pb vs nt m f at_ fin) (hn : nt ≤ 6) {t : Nat} (ht : t < nt) : Calls Try.prog 11 #[.pointer (some ⟨pb, 0, none⟩), .int .i64 (t : Int)] w fun e w' => e = .returned (.int .i64 0) ∧ PL w' pb vs nt m f at_ (upd fin t) ∧ Keeps (fun k => k = pb) w w' := by
  have hh := has_any h (t : Int)
  have hP := h.finish (t := t) (by omega)
  have ct := h.cf t (by omega)
  have zt := h.zz (3 + t) (by omega)
  have e : decide (0 ≤ (t : Int) ∧ (t : Int) < (nt : Int)) = true := decide_eq_true (by omega)
  rw [e] at hh
  have ht6 : (t : Int) < 6 := by omega
  have ht0 : (0 : Int) ≤ (t : Int) := by omega
  clear h e
  go_enter Try.func11, Try.ntmps11
  go_wp2_with ((go_at_call 24; refine hh.mono ?_; rintro e w1 ⟨rfl, rfl⟩))
  go_ret
  exact ⟨rfl, hP, (Keeps.refl (fun k => k = pb) _).setCell (p := ⟨pb, 3 + t, none⟩) (fun _ => rfl) _⟩
set_option maxHeartbeats 1600000 in
set_option maxRecDepth 1000000 in
theorem finish_not {w : World} {p : Option Addr} {t : Int} (hh : Calls Try.prog 24 #[.pointer p, .int .i64 t] w fun e w' => e = .returned (.bool false) ∧ w' = w) : Calls Try.prog 11 #[.pointer p, .int .i64 t] w fun e w' => e = .returned (.int .i64 42) ∧ w' = w := by
  go_enter Try.func11, Try.ntmps11
  go_wp2_with ((go_at_call 24; refine hh.mono ?_; rintro e w1 ⟨rfl, rfl⟩))
  go_ret
  exact ⟨rfl, rfl⟩
set_option maxHeartbeats 1600000 in
set_option maxRecDepth 1000000 in
theorem finished_any (h : PL w pb vs nt m f at_ fin) (hn : nt ≤ 6) {t : Nat} (ht : t < nt) : Calls Try.prog 12 #[.pointer (some ⟨pb, 0, none⟩), .int .i64 (t : Int)] w fun e w' => e = .returned (.tuple #[.bool (fin t), .int .i64 0]) ∧ w' = w := by
  have hh := has_any h (t : Int)
  have ct := h.cf t (by omega)
  have e : decide (0 ≤ (t : Int) ∧ (t : Int) < (nt : Int)) = true := decide_eq_true (by omega)
  rw [e] at hh
  have ht6 : (t : Int) < 6 := by omega
  have ht0 : (0 : Int) ≤ (t : Int) := by omega
  clear h e
  go_enter Try.func12, Try.ntmps12
  go_wp2_with ((go_at_call 24; refine hh.mono ?_; rintro e w1 ⟨rfl, rfl⟩))
  refine bodyPost_ret (v := .tuple #[.bool (fin t), .int .i64 0]) (by simp [results, Try.f12, go_sem]) rfl ?_
  exact ⟨rfl, rfl⟩
set_option maxHeartbeats 1600000 in
set_option maxRecDepth 1000000 in
theorem finished_not {w : World} {p : Option Addr} {t : Int} (hh : Calls Try.prog 24 #[.pointer p, .int .i64 t] w fun e w' => e = .returned (.bool false) ∧ w' = w) : Calls Try.prog 12 #[.pointer p, .int .i64 t] w fun e w' => e = .returned (.tuple #[.bool false, .int .i64 42]) ∧ w' = w := by
  go_enter Try.func12, Try.ntmps12
  go_wp2_with ((go_at_call 24; refine hh.mono ?_; rintro e w1 ⟨rfl, rfl⟩))
  refine bodyPost_ret (v := .tuple #[.bool false, .int .i64 42]) (by simp [results, Try.f12, go_sem]) rfl ?_
  exact ⟨rfl, rfl⟩

/-- Next where nothing is left. -/
theorem next_done {w : World} {p : Option Addr} (hl : ∀ o, Calls Try.prog 8 #[.pointer p] (w.alloc o) fun e w' => e = .returned (.int .i64 0) ∧ Keeps (fun _ => False) (w.alloc o) w') : Calls Try.prog 9 #[.pointer p] w fun e w' => e = .returned (.tuple #[.agg #[.int .i64 0, .int .i64 0], .bool false]) ∧ Keeps (fun _ => False) w w' := by
  go_enter Try.func9, Try.ntmps9
  go_wp2_with ((go_at_call 8; refine (hl _).mono ?_; rintro e w1 ⟨rfl, k1⟩; have c0 := k1.cell (p := ⟨w.heap.size, 0, none⟩) (v := .int .i64 0) (by simp) (fun e => e); have c1 := k1.cell (p := ⟨w.heap.size, 1, none⟩) (v := .int .i64 0) (by simp) (fun e => e); have z0 := (k1.frozen (p := ⟨w.heap.size, 0, none⟩) (by simp) (fun e => e)).trans (show _ = false by simp); have z1 := (k1.frozen (p := ⟨w.heap.size, 1, none⟩) (by simp) (fun e => e)).trans (show _ = false by simp)))
  have d0 : ((w1.setCell ⟨w.heap.size, 0, none⟩ (.int .i64 0)).setCell ⟨w.heap.size, 1, none⟩ (.int .i64 0)).cell? ⟨w.heap.size, 0, none⟩ = some (.int .i64 0) := (World.cell?_setCell_other (h := by simp) ..).trans (World.cell?_setCell_same (h := c0) ..)
  have d1 : ((w1.setCell ⟨w.heap.size, 0, none⟩ (.int .i64 0)).setCell ⟨w.heap.size, 1, none⟩ (.int .i64 0)).cell? ⟨w.heap.size, 1, none⟩ = some (.int .i64 0) := World.cell?_setCell_same (h := (World.cell?_setCell_other (h := by simp) ..).trans c1) ..
  refine bodyPost_ret (v := .tuple #[.agg #[.int .i64 0, .int .i64 0], .bool false]) (by simp [results, Try.f9, go_sem, d0, d1]) rfl ?_
  exact ⟨rfl, ((((Keeps.refl _ w).alloc _).trans k1).setCell (p := ⟨w.heap.size, 0, none⟩) (fun h => absurd h (Nat.lt_irrefl _)) _).setCell (p := ⟨w.heap.size, 1, none⟩) (fun h => absurd h (Nat.lt_irrefl _)) _⟩

/-- Next's end: the plan goes on, the result is written. -/
theorem next_end {W : World} (h : PL W pb vs nt m f at_ fin) {R : Nat} {v0 v1 u0 u1 : Value} (r0 : W.cell? ⟨R, 0, none⟩ = some u0) (r1 : W.cell? ⟨R, 1, none⟩ = some u1) (hR : R ≠ pb) (hv : ∀ g, vs.ownBlock = some g → g ≠ R) :
    (((W.setCell ⟨pb, 2, none⟩ (.int .i64 ((at_ : Int) + 1))).setCell ⟨R, 0, none⟩ v0).setCell ⟨R, 1, none⟩ v1).cell? ⟨R, 0, none⟩ = some v0 ∧
    (((W.setCell ⟨pb, 2, none⟩ (.int .i64 ((at_ : Int) + 1))).setCell ⟨R, 0, none⟩ v0).setCell ⟨R, 1, none⟩ v1).cell? ⟨R, 1, none⟩ = some v1 ∧
    PL (((W.setCell ⟨pb, 2, none⟩ (.int .i64 ((at_ : Int) + 1))).setCell ⟨R, 0, none⟩ v0).setCell ⟨R, 1, none⟩ v1) pb vs nt m f (at_ + 1) fin ∧
    Keeps (fun k => k = pb ∨ k = R) W (((W.setCell ⟨pb, 2, none⟩ (.int .i64 ((at_ : Int) + 1))).setCell ⟨R, 0, none⟩ v0).setCell ⟨R, 1, none⟩ v1) := by
  have e0 := (World.cell?_setCell_far W ⟨pb, 2, none⟩ ⟨R, 0, none⟩ (.int .i64 ((at_ : Int) + 1)) (Ne.symm hR)).trans r0
  have e1 := (World.cell?_setCell_far W ⟨pb, 2, none⟩ ⟨R, 1, none⟩ (.int .i64 ((at_ : Int) + 1)) (Ne.symm hR)).trans r1
  have hs : PL (W.setCell ⟨pb, 2, none⟩ (.int .i64 ((at_ : Int) + 1))) pb vs nt m f (at_ + 1) fin := h.step
  have k1 : Keeps (fun k => k = pb ∨ k = R) W (W.setCell ⟨pb, 2, none⟩ (.int .i64 ((at_ : Int) + 1))) := (Keeps.refl _ W).setCell (p := ⟨pb, 2, none⟩) (fun _ => .inl rfl) _
  have k2 : Keeps (fun k => k = R) (W.setCell ⟨pb, 2, none⟩ (.int .i64 ((at_ : Int) + 1))) (((W.setCell ⟨pb, 2, none⟩ (.int .i64 ((at_ : Int) + 1))).setCell ⟨R, 0, none⟩ v0).setCell ⟨R, 1, none⟩ v1) := ((Keeps.refl (fun k => k = R) _).setCell (p := ⟨R, 0, none⟩) (fun _ => rfl) _).setCell (p := ⟨R, 1, none⟩) (fun _ => rfl) _
  exact ⟨(World.cell?_setCell_other (h := by simp) ..).trans (World.cell?_setCell_same (h := e0) ..), World.cell?_setCell_same (h := (World.cell?_setCell_other (h := by simp) ..).trans e1) .., hs.keeps k2 (Ne.symm hR) hv, k1.trans (k2.mono (fun _ _ e => .inr e))⟩

/-- Whom Next gives the turn. -/
def turn (th : Int) (fin : Nat → Bool) : Int := if th ≠ -1 ∧ fin th.toNat = true then -1 else th

set_option maxHeartbeats 3200000 in
set_option maxRecDepth 1000000 in
theorem next_any (h : PL w pb vs nt m f at_ fin) (ha : at_ < m) (hm : m ≤ 4096) (hn : nt ≤ 6) (hf : -1 ≤ f at_ ∧ f at_ < nt) : Calls Try.prog 9 #[.pointer (some ⟨pb, 0, none⟩)] w fun e w' => e = .returned (.tuple #[.agg #[.int .i64 (at_ : Int), .int .i64 (turn (f at_) fin)], .bool true]) ∧ PL w' pb vs nt m f (at_ + 1) fin ∧ Keeps (fun k => k = pb) w w' := by
  have hl := fun o => left_any (h.new ((Keeps.refl _ w).alloc o)) (Nat.le_of_lt ha) hm
  obtain ⟨a, cap, rfl, hnl, hob⟩ := owns_nl h.nm
  obtain ⟨g, off, rfl, hg, hcs⟩ := hnl.some (by omega)
  have lb := h.lt
  have hd : ((m : Int) - (at_ : Int) == 0) = false := by simp; omega
  have ha0 : (0 : Int) ≤ (at_ : Int) := by omega
  have ham : (at_ : Int) < (m : Int) := by omega
  have HP := (show Hid (PL w pb (.slice (some ⟨g, off, none⟩) m cap) nt m f at_ fin) from h)
  have HCS := (show Hid (∀ i, i < m → w.cell? ⟨g, off + i, none⟩ = some (.int .i64 (f i))) from hcs)
  obtain ⟨th, hth⟩ : ∃ th, Hid (th = f at_) := ⟨_, rfl⟩
  rw [← hth.out] at hf ⊢
  clear h hcs hnl hob
  go_enter Try.func9, Try.ntmps9
  go_wp2_with ((go_at_call 8; refine (hl _).mono ?_; rintro e w1 ⟨rfl, k1⟩))
  have K1 : Keeps (fun _ => False) w w1 := ((Keeps.refl _ w).alloc _).trans k1
  have r0 := k1.cell (p := ⟨w.heap.size, 0, none⟩) (v := .int .i64 0) (by simp) (fun e => e)
  have r1 := k1.cell (p := ⟨w.heap.size, 1, none⟩) (v := .int .i64 0) (by simp) (fun e => e)
  have z0 : w1.frozen? ⟨w.heap.size, 0, none⟩ = false := (k1.frozen (p := ⟨w.heap.size, 0, none⟩) (by simp) (fun e => e)).trans (by simp)
  have z1 : w1.frozen? ⟨w.heap.size, 1, none⟩ = false := (k1.frozen (p := ⟨w.heap.size, 1, none⟩) (by simp) (fun e => e)).trans (by simp)
  have s1 : w.heap.size < w1.heap.size := World.block_lt_of_cell? _ _ r0
  have p1 := K1.cell HP.out.c1 (fun e => e)
  have p2 := K1.cell HP.out.c2 (fun e => e)
  have p3 := K1.cell (HCS.out at_ ha) (fun e => e)
  rw [← hth.out] at p3
  have n1 := World.new_ne w1 _ p1
  have n2 := World.new_ne w1 _ p2
  have n3 := World.new_ne w1 _ p3
  simp only at n1 n2 n3
  go_region_held3 (fun w' => w'.cell? ⟨pb, 1, none⟩ = some (.slice (some ⟨g, off, none⟩) m cap) ∧ w'.cell? ⟨pb, 2, none⟩ = some (.int .i64 (at_ : Int)) ∧ w'.cell? ⟨g, off + at_, none⟩ = some (.int .i64 th)) (go_keep) (fail)
  have KA : Keeps (fun _ => False) w1 (w1.alloc (.cells #[.int .i64 (at_ : Int), .int .i64 th] 32)).drew := ((Keeps.refl _ w1).alloc _).drew
  have t0 : (w1.alloc (.cells #[.int .i64 (at_ : Int), .int .i64 th] 32)).drew.cell? ⟨w1.heap.size, 0, none⟩ = some (.int .i64 (at_ : Int)) := by simp
  have t1 : (w1.alloc (.cells #[.int .i64 (at_ : Int), .int .i64 th] 32)).drew.cell? ⟨w1.heap.size, 1, none⟩ = some (.int .i64 th) := by simp
  have tz : (w1.alloc (.cells #[.int .i64 (at_ : Int), .int .i64 th] 32)).drew.frozen? ⟨w1.heap.size, 1, none⟩ = false := by simp
  have y0 := (KA.frozen (p := ⟨w.heap.size, 0, none⟩) s1 (fun e => e)).trans z0
  have y1 := (KA.frozen (p := ⟨w.heap.size, 1, none⟩) s1 (fun e => e)).trans z1
  replace r0 := KA.cell r0 (fun e => e)
  replace r1 := KA.cell r1 (fun e => e)
  have K2 := K1.trans KA
  have hT : w.heap.size ≠ w1.heap.size := by omega
  have hTp : pb ≠ w1.heap.size := Ne.symm n1
  have hRp : w.heap.size ≠ pb := by omega
  have hRv : ∀ g', (Value.slice (some ⟨g, off, none⟩) m cap).ownBlock = some g' → g' ≠ w.heap.size := fun g' e => by cases e; simp; omega
  rename_i hheld
  clear hheld p1 p2 p3 z0 z1 KA k1 hl
  generalize (w1.alloc (.cells #[.int .i64 (at_ : Int), .int .i64 th] 32)).drew = W2 at *
  have HP2 : Hid (PL W2 pb (.slice (some ⟨g, off, none⟩) m cap) nt m f at_ fin) := HP.out.new K2
  have p2 := HP2.out.c2
  have zp := HP2.out.zz 2 (by omega)
  by_cases hx : th = -1
  · have HT : Hid (turn th fin = th) := if_neg (fun e => e.1 hx)
    have hb : (th != -1) = false := by simp [hx]
    have HX := (show Hid (th = -1) from hx)
    clear hx
    go_wp2
    go_region
    go_wp2
    refine bodyPost_ret (v := .tuple #[.agg #[.int .i64 (at_ : Int), .int .i64 th], .bool true]) (by rw [results_cell_tmp rfl]; go_simp) rfl ?_
    obtain ⟨_, _, hP', kP⟩ := next_end (v0 := .int .i64 (at_ : Int)) (v1 := .int .i64 th) (HP2.out.new (w' := W2.drew) ((Keeps.refl _ W2).drew)) r0 r1 hRp hRv
    exact ⟨by rw [HT.out], hP', (K2.drew.trans' (U := fun k => k = pb) kP (fun _ _ e => e.elim) (fun i hi e => by rcases e with e | e; exact e; omega))⟩
  · obtain ⟨t, hte⟩ : ∃ t : Nat, th = (t : Int) := ⟨th.toNat, by omega⟩
    have ht6 : t < 6 := by omega
    have htI : (t : Int) < 6 := by omega
    have ht0 : (0 : Int) ≤ (t : Int) := by omega
    have hb : ((t : Int) != -1) = true := by simp <;> omega
    have cf := HP2.out.cf t ht6
    subst hte
    by_cases hfin : fin t = true
    · have HT : Hid (turn (t : Int) fin = -1) := if_pos ⟨hx, hfin⟩
      rw [hfin] at cf
      clear hx hf
      go_wp2
      go_region
      go_wp2
      have k5 : Keeps (fun k => k = w1.heap.size) W2 (W2.drew.setCell ⟨w1.heap.size, 1, none⟩ (.int .i64 (-1))) := ((Keeps.refl (fun k => k = w1.heap.size) W2).drew).setCell (p := ⟨w1.heap.size, 1, none⟩) (fun _ => rfl) _
      refine bodyPost_ret (v := .tuple #[.agg #[.int .i64 (at_ : Int), .int .i64 (-1)], .bool true]) (by rw [results_cell_tmp rfl]; go_simp) rfl ?_
      obtain ⟨_, _, hP', kP⟩ := next_end (v0 := .int .i64 (at_ : Int)) (v1 := .int .i64 (-1)) (HP2.out.keeps k5 hTp (fun g' e => by cases e; exact Ne.symm n3)) (k5.cell r0 hT) (k5.cell r1 hT) hRp hRv
      exact ⟨by rw [HT.out], hP', ((K2.trans' (U := fun k => k = w1.heap.size) k5 (fun _ _ e => e.elim) (fun _ _ e => e)).trans' (U := fun k => k = pb) kP (fun i hi e => by omega) (fun i hi e => by rcases e with e | e; exact e; omega))⟩
    · have hfin' : fin t = false := by simpa using hfin
      have HT : Hid (turn (t : Int) fin = (t : Int)) := if_neg (fun e => hfin e.2)
      rw [hfin'] at cf
      clear hx hf hfin
      go_wp2
      go_region
      go_wp2
      refine bodyPost_ret (v := .tuple #[.agg #[.int .i64 (at_ : Int), .int .i64 (t : Int)], .bool true]) (by rw [results_cell_tmp rfl]; go_simp) rfl ?_
      obtain ⟨_, _, hP', kP⟩ := next_end (v0 := .int .i64 (at_ : Int)) (v1 := .int .i64 (t : Int)) (HP2.out.new (w' := W2.drew) ((Keeps.refl _ W2).drew)) r0 r1 hRp hRv
      exact ⟨by rw [HT.out], hP', (K2.drew.trans' (U := fun k => k = pb) kP (fun _ _ e => e.elim) (fun i hi e => by rcases e with e | e; exact e; omega))⟩
end
end Go.Proofs.Ytgfjhogogajbjab
