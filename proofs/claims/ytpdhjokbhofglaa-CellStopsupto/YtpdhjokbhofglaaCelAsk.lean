import Derived.Test.YtpdhjokbhofglaaCelF
import Derived.Test.YtpdhjokbhofglaaCelOpen
namespace Go.Proofs.Ytpdhjokbhofglaa
open Go.RowKit

def Ac.v (q : Ac) : Value := .agg #[.int .i64 q.kind, .int .i64 q.c, .int .i64 q.x, .int .i64 q.y]
/-- What is asked for: 1 to 3. -/
def Ac.kd (q : Ac) : Int := if q.kind = 2 then 2 else if q.kind = 3 then 3 else 1
/-- What the cell holds behind it. -/
def Ac.wrote (q : Ac) (v : Int) : Int := if q.kind = 2 then (if v = q.x then q.y else v) else if q.kind = 3 then wrap64 (v + q.x) else v
def Ac.done (q : Ac) (v : Int) : Bool := if q.kind = 2 then decide (v = q.x) else true
/-- What is answered, as a number. -/
def Ac.said (q : Ac) (v : Int) : Int := if q.kind = 2 then (if v = q.x then 1 else 0) else v

set_option maxHeartbeats 800000 in
set_option maxRecDepth 1000000 in
theorem place_any (w : World) (q : Ac) : Calls Try.prog 16 #[.agg #[.int .i64 q.kind, .int .i64 q.c, .int .i64 q.x, .int .i64 q.y]] w fun e w' =>
    e = .returned (.int .i64 (pl q.c : Int)) ∧ w' = w.alloc (.cells #[.int .i64 q.kind, .int .i64 q.c, .int .i64 q.x, .int .i64 q.y] 26) := by
  have hb := and3 q.c
  go_enter Try.func16, Try.ntmps16
  go_wp2
  go_ret
  exact ⟨rfl, rfl⟩
set_option maxHeartbeats 800000 in
set_option maxRecDepth 1000000 in
theorem kind_any (w : World) (q : Ac) : Calls Try.prog 14 #[.agg #[.int .i64 q.kind, .int .i64 q.c, .int .i64 q.x, .int .i64 q.y]] w fun e w' =>
    e = .returned (.int .i64 q.kd) ∧ w' = w.alloc (.cells #[.int .i64 q.kind, .int .i64 q.c, .int .i64 q.x, .int .i64 q.y] 26) := by
  unfold Ac.kd
  by_cases h2 : q.kind = 2
  · rw [if_pos h2]
    have b2 : (q.kind == 2) = true := by simp [h2]
    go_enter Try.func14, Try.ntmps14
    go_wp2
    go_ret
    exact ⟨rfl, by rw [h2]⟩
  · rw [if_neg h2]
    have b2 : (q.kind == 2) = false := by simp [h2]
    by_cases h3 : q.kind = 3
    · rw [if_pos h3]
      have b3 : (q.kind == 3) = true := by simp [h3]
      clear h2
      go_enter Try.func14, Try.ntmps14
      go_wp2
      go_ret
      exact ⟨rfl, by rw [h3]⟩
    · rw [if_neg h3]
      have b3 : (q.kind == 3) = false := by simp [h3]
      clear h2 h3
      go_enter Try.func14, Try.ntmps14
      go_wp2
      go_ret
      exact ⟨rfl, rfl⟩

set_option maxHeartbeats 3200000 in
set_option maxRecDepth 1000000 in
theorem asked_swap {w : World} {mb : Nat} {q : Ac} (hk : q.kind = 2) (P : World → Prop) (er : Int) (b : Bool)
    (hsw : ∀ W, Keeps (fun _ => False) w W → Calls Try.prog 15 #[.pointer (some ⟨mb, 0, none⟩), .int .i64 (pl q.c : Int), .int .i64 q.x, .int .i64 q.y] W fun e w' => e = .returned (.tuple #[.bool b, .int .i64 er]) ∧ P w' ∧ Keeps (fun k => k < w.heap.size) W w') :
    Calls Try.prog 7 #[.pointer (some ⟨mb, 0, none⟩), .agg #[.int .i64 q.kind, .int .i64 q.c, .int .i64 q.x, .int .i64 q.y]] w fun e w' => e = .returned (.tuple #[.int .i64 (if b then 1 else 0), .int .i64 er]) ∧ P w' := by
  have hkd : q.kd = 2 := by unfold Ac.kd; simp [hk]
  clear hk
  obtain ⟨w0, hw0⟩ : ∃ w0, w0 = w.alloc (.cells #[.int .i64 q.kind, .int .i64 q.c, .int .i64 q.x, .int .i64 q.y] 26) := ⟨_, rfl⟩
  have K0 : Keeps (fun _ => False) w w0 := by rw [hw0]; exact (Keeps.refl _ w).alloc _
  have b0 : w0.cell? ⟨w.heap.size, 0, none⟩ = some (.int .i64 q.kind) := by rw [hw0]; simp
  have b1 : w0.cell? ⟨w.heap.size, 1, none⟩ = some (.int .i64 q.c) := by rw [hw0]; simp
  have b2 : w0.cell? ⟨w.heap.size, 2, none⟩ = some (.int .i64 q.x) := by rw [hw0]; simp
  have b3 : w0.cell? ⟨w.heap.size, 3, none⟩ = some (.int .i64 q.y) := by rw [hw0]; simp
  have hki := kind_any w0 q
  rw [hkd] at hki
  clear hkd
  go_enter Try.func7, Try.ntmps7
  go_wp2_with fail
  rw [← hw0]
  clear hw0
  go_wp2_with fail
  refine hki.mono ?_
  rintro e w1 ⟨rfl, hw1⟩
  have K1 : Keeps (fun _ => False) w0 w1 := by rw [hw1]; exact (Keeps.refl _ w0).alloc _
  clear hw1 hki
  have K := K0.trans K1
  replace b0 := K1.cell b0 (fun e => e)
  replace b1 := K1.cell b1 (fun e => e)
  replace b2 := K1.cell b2 (fun e => e)
  replace b3 := K1.cell b3 (fun e => e)
  clear K0 K1
  go_wp2_with fail
  go_region_held3 (fun w' => w'.cell? ⟨w.heap.size, 0, none⟩ = some (.int .i64 q.kind) ∧ w'.cell? ⟨w.heap.size, 1, none⟩ = some (.int .i64 q.c) ∧ w'.cell? ⟨w.heap.size, 2, none⟩ = some (.int .i64 q.x) ∧ w'.cell? ⟨w.heap.size, 3, none⟩ = some (.int .i64 q.y)) (go_keep) (first | (go_at_call 16; refine (place_any _ q).mono ?_; rintro e w2 ⟨rfl, hw2⟩; have K2 : Keeps (fun _ => False) w1 w2 := (by rw [hw2]; exact (Keeps.refl _ w1).drew.alloc _); clear hw2; have c0 := K2.cell b0 (fun e => e); have c1 := K2.cell b1 (fun e => e); have c2 := K2.cell b2 (fun e => e); have c3 := K2.cell b3 (fun e => e)) | (go_at_call 15; refine (hsw _ (K.trans K2)).mono ?_; rintro e w3 ⟨rfl, hP, K3⟩; have d0 := K3.cell (p := ⟨w.heap.size, 0, none⟩) c0 (Nat.lt_irrefl _); have d1 := K3.cell (p := ⟨w.heap.size, 1, none⟩) c1 (Nat.lt_irrefl _); have d2 := K3.cell (p := ⟨w.heap.size, 2, none⟩) c2 (Nat.lt_irrefl _); have d3 := K3.cell (p := ⟨w.heap.size, 3, none⟩) c3 (Nat.lt_irrefl _)))
  cases b with
  | true =>
    go_wp2_with (go_at_call 5; refine (num_any _ _).mono ?_; rintro e w3 ⟨rfl, rfl⟩)
    go_ret2
    exact ⟨rfl, hP⟩
  | false =>
    go_wp2_with (go_at_call 5; refine (num_any _ _).mono ?_; rintro e w3 ⟨rfl, rfl⟩)
    go_ret2
    exact ⟨rfl, hP⟩

set_option maxHeartbeats 3200000 in
set_option maxRecDepth 1000000 in
theorem asked_add {w : World} {mb : Nat} {q : Ac} (hk : q.kind = 3) (P : World → Prop) (v er : Int)
    (hsw : ∀ W, Keeps (fun _ => False) w W → Calls Try.prog 10 #[.pointer (some ⟨mb, 0, none⟩), .int .i64 (pl q.c : Int), .int .i64 q.x] W fun e w' => e = .returned (.tuple #[.int .i64 v, .int .i64 er]) ∧ P w' ∧ Keeps (fun k => k < w.heap.size) W w') :
    Calls Try.prog 7 #[.pointer (some ⟨mb, 0, none⟩), .agg #[.int .i64 q.kind, .int .i64 q.c, .int .i64 q.x, .int .i64 q.y]] w fun e w' => e = .returned (.tuple #[.int .i64 v, .int .i64 er]) ∧ P w' := by
  have hkd : q.kd = 3 := by unfold Ac.kd; simp [hk]
  clear hk
  obtain ⟨w0, hw0⟩ : ∃ w0, w0 = w.alloc (.cells #[.int .i64 q.kind, .int .i64 q.c, .int .i64 q.x, .int .i64 q.y] 26) := ⟨_, rfl⟩
  have K0 : Keeps (fun _ => False) w w0 := by rw [hw0]; exact (Keeps.refl _ w).alloc _
  have b0 : w0.cell? ⟨w.heap.size, 0, none⟩ = some (.int .i64 q.kind) := by rw [hw0]; simp
  have b1 : w0.cell? ⟨w.heap.size, 1, none⟩ = some (.int .i64 q.c) := by rw [hw0]; simp
  have b2 : w0.cell? ⟨w.heap.size, 2, none⟩ = some (.int .i64 q.x) := by rw [hw0]; simp
  have b3 : w0.cell? ⟨w.heap.size, 3, none⟩ = some (.int .i64 q.y) := by rw [hw0]; simp
  have hki := kind_any w0 q
  rw [hkd] at hki
  clear hkd
  go_enter Try.func7, Try.ntmps7
  go_wp2_with fail
  rw [← hw0]
  clear hw0
  go_wp2_with fail
  refine hki.mono ?_
  rintro e w1 ⟨rfl, hw1⟩
  have K1 : Keeps (fun _ => False) w0 w1 := by rw [hw1]; exact (Keeps.refl _ w0).alloc _
  clear hw1 hki
  have K := K0.trans K1
  replace b0 := K1.cell b0 (fun e => e)
  replace b1 := K1.cell b1 (fun e => e)
  replace b2 := K1.cell b2 (fun e => e)
  replace b3 := K1.cell b3 (fun e => e)
  clear K0 K1
  go_wp2_with fail
  go_region_held3 (fun w' => w'.cell? ⟨w.heap.size, 0, none⟩ = some (.int .i64 q.kind) ∧ w'.cell? ⟨w.heap.size, 1, none⟩ = some (.int .i64 q.c) ∧ w'.cell? ⟨w.heap.size, 2, none⟩ = some (.int .i64 q.x) ∧ w'.cell? ⟨w.heap.size, 3, none⟩ = some (.int .i64 q.y)) (go_keep) (first | (go_at_call 16; refine (place_any _ q).mono ?_; rintro e w2 ⟨rfl, hw2⟩; have K2 : Keeps (fun _ => False) w1 w2 := (by rw [hw2]; exact (Keeps.refl _ w1).drew.alloc _); clear hw2; have c0 := K2.cell b0 (fun e => e); have c1 := K2.cell b1 (fun e => e); have c2 := K2.cell b2 (fun e => e); have c3 := K2.cell b3 (fun e => e)) | (go_at_call 10; refine (hsw _ (K.trans K2)).mono ?_; rintro e w3 ⟨rfl, hP, K3⟩; have d0 := K3.cell (p := ⟨w.heap.size, 0, none⟩) c0 (Nat.lt_irrefl _); have d1 := K3.cell (p := ⟨w.heap.size, 1, none⟩) c1 (Nat.lt_irrefl _); have d2 := K3.cell (p := ⟨w.heap.size, 2, none⟩) c2 (Nat.lt_irrefl _); have d3 := K3.cell (p := ⟨w.heap.size, 3, none⟩) c3 (Nat.lt_irrefl _)))
  go_wp2_with (go_at_call 5; refine (num_any _ _).mono ?_; rintro e w3 ⟨rfl, rfl⟩)
  go_ret2
  exact ⟨rfl, hP⟩

set_option maxHeartbeats 3200000 in
set_option maxRecDepth 1000000 in
theorem asked_load {w : World} {mb : Nat} {q : Ac} (hk : q.kind ≠ 2 ∧ q.kind ≠ 3) (P : World → Prop) (v er : Int)
    (hsw : ∀ W, Keeps (fun _ => False) w W → Calls Try.prog 17 #[.pointer (some ⟨mb, 0, none⟩), .int .i64 (pl q.c : Int)] W fun e w' => e = .returned (.tuple #[.int .i64 v, .int .i64 er]) ∧ P w' ∧ Keeps (fun k => k < w.heap.size) W w') :
    Calls Try.prog 7 #[.pointer (some ⟨mb, 0, none⟩), .agg #[.int .i64 q.kind, .int .i64 q.c, .int .i64 q.x, .int .i64 q.y]] w fun e w' => e = .returned (.tuple #[.int .i64 v, .int .i64 er]) ∧ P w' := by
  have hkd : q.kd = 1 := by unfold Ac.kd; simp [hk.1, hk.2]
  clear hk
  obtain ⟨w0, hw0⟩ : ∃ w0, w0 = w.alloc (.cells #[.int .i64 q.kind, .int .i64 q.c, .int .i64 q.x, .int .i64 q.y] 26) := ⟨_, rfl⟩
  have K0 : Keeps (fun _ => False) w w0 := by rw [hw0]; exact (Keeps.refl _ w).alloc _
  have b0 : w0.cell? ⟨w.heap.size, 0, none⟩ = some (.int .i64 q.kind) := by rw [hw0]; simp
  have b1 : w0.cell? ⟨w.heap.size, 1, none⟩ = some (.int .i64 q.c) := by rw [hw0]; simp
  have b2 : w0.cell? ⟨w.heap.size, 2, none⟩ = some (.int .i64 q.x) := by rw [hw0]; simp
  have b3 : w0.cell? ⟨w.heap.size, 3, none⟩ = some (.int .i64 q.y) := by rw [hw0]; simp
  have hki := kind_any w0 q
  rw [hkd] at hki
  clear hkd
  go_enter Try.func7, Try.ntmps7
  go_wp2_with fail
  rw [← hw0]
  clear hw0
  go_wp2_with fail
  refine hki.mono ?_
  rintro e w1 ⟨rfl, hw1⟩
  have K1 : Keeps (fun _ => False) w0 w1 := by rw [hw1]; exact (Keeps.refl _ w0).alloc _
  clear hw1 hki
  have K := K0.trans K1
  replace b0 := K1.cell b0 (fun e => e)
  replace b1 := K1.cell b1 (fun e => e)
  replace b2 := K1.cell b2 (fun e => e)
  replace b3 := K1.cell b3 (fun e => e)
  clear K0 K1
  go_wp2_with fail
  refine (place_any w1 q).mono ?_
  rintro e w2 ⟨rfl, hw2⟩
  have K2 : Keeps (fun _ => False) w1 w2 := by rw [hw2]; exact (Keeps.refl _ w1).alloc _
  clear hw2
  go_wp2_with fail
  refine (hsw _ (K.trans K2)).mono ?_
  rintro e w3 ⟨rfl, hP, _⟩
  go_wp2_with (go_at_call 5; refine (num_any _ _).mono ?_; rintro e w3 ⟨rfl, rfl⟩)
  go_ret2
  exact ⟨rfl, hP⟩

theorem left_lt {w W w' : World} {F F' : List Nat} (hF : ∀ k ∈ F, k < w.heap.size) (l : Left W w' F F') : Keeps (fun k => k < w.heap.size) W w' := l.keeps.mono (fun k _ e => hF k e)
theorem false_lt {w W w' : World} (k : Keeps (fun _ => False) W w') : Keeps (fun k => k < w.heap.size) W w' := k.mono (fun _ _ e => e.elim)

/-- An access that is taken. -/
theorem asked_ok {w : World} {mb : Nat} {s : Mm} {F : List Nat} (h : MI w mb s F) (q : Ac) (hc : pl q.c < s.cells.length) (hfr : s.free = true) (hlog : (s.log.length + 1) * 56 ≤ 140737488355328) :
    Calls Try.prog 7 #[.pointer (some ⟨mb, 0, none⟩), .agg #[.int .i64 q.kind, .int .i64 q.c, .int .i64 q.x, .int .i64 q.y]] w fun e w' =>
      e = .returned (.tuple #[.int .i64 (q.said (ca s.cells (pl q.c)).2), .int .i64 0]) ∧ ∃ F', MI w' mb (s.take q.kd (pl q.c) (q.wrote (ca s.cells (pl q.c)).2) (q.done (ca s.cells (pl q.c)).2)) F' ∧ Left w w' F F' := by
  have hF := h.lt
  by_cases h2 : q.kind = 2
  · have e1 : q.said (ca s.cells (pl q.c)).2 = (if decide ((ca s.cells (pl q.c)).2 = q.x) then 1 else 0) := by simp [Ac.said, h2]
    have e2 : q.wrote (ca s.cells (pl q.c)).2 = (if (ca s.cells (pl q.c)).2 = q.x then q.y else (ca s.cells (pl q.c)).2) := by simp [Ac.wrote, h2]
    have e3 : q.done (ca s.cells (pl q.c)).2 = decide ((ca s.cells (pl q.c)).2 = q.x) := by simp [Ac.done, h2]
    have e4 : q.kd = 2 := by simp [Ac.kd, h2]
    rw [e1, e2, e3, e4]
    refine asked_swap h2 (fun w' => ∃ F', MI w' mb (s.take 2 (pl q.c) (if (ca s.cells (pl q.c)).2 = q.x then q.y else (ca s.cells (pl q.c)).2) (decide ((ca s.cells (pl q.c)).2 = q.x))) F' ∧ Left w w' F F') 0 _ (fun W k => ?_)
    refine (swap_ok (h.new k) hc hfr hlog q.x q.y).mono ?_
    rintro e w' ⟨rfl, F', h', l⟩
    exact ⟨rfl, ⟨F', h', (Left.new k).trans l⟩, left_lt hF l⟩
  · by_cases h3 : q.kind = 3
    · have e1 : q.said (ca s.cells (pl q.c)).2 = (ca s.cells (pl q.c)).2 := by simp [Ac.said, h2]
      have e2 : q.wrote (ca s.cells (pl q.c)).2 = wrap64 ((ca s.cells (pl q.c)).2 + q.x) := by simp [Ac.wrote, h3]
      have e3 : q.done (ca s.cells (pl q.c)).2 = true := by simp [Ac.done, h2]
      have e4 : q.kd = 3 := by simp [Ac.kd, h3]
      rw [e1, e2, e3, e4]
      refine asked_add h3 (fun w' => ∃ F', MI w' mb (s.take 3 (pl q.c) (wrap64 ((ca s.cells (pl q.c)).2 + q.x)) true) F' ∧ Left w w' F F') _ 0 (fun W k => ?_)
      refine (add_ok (h.new k) hc hfr hlog q.x).mono ?_
      rintro e w' ⟨rfl, F', h', l⟩
      exact ⟨rfl, ⟨F', h', (Left.new k).trans l⟩, left_lt hF l⟩
    · have e1 : q.said (ca s.cells (pl q.c)).2 = (ca s.cells (pl q.c)).2 := by simp [Ac.said, h2]
      have e2 : q.wrote (ca s.cells (pl q.c)).2 = (ca s.cells (pl q.c)).2 := by simp [Ac.wrote, h2, h3]
      have e3 : q.done (ca s.cells (pl q.c)).2 = true := by simp [Ac.done, h2]
      have e4 : q.kd = 1 := by simp [Ac.kd, h2, h3]
      rw [e1, e2, e3, e4]
      refine asked_load ⟨h2, h3⟩ (fun w' => ∃ F', MI w' mb (s.take 1 (pl q.c) (ca s.cells (pl q.c)).2 true) F' ∧ Left w w' F F') _ 0 (fun W k => ?_)
      refine (load_ok (h.new k) hc hfr hlog).mono ?_
      rintro e w' ⟨rfl, F', h', l⟩
      exact ⟨rfl, ⟨F', h', (Left.new k).trans l⟩, left_lt hF l⟩

/-- An access of no cell. -/
theorem asked_cell {w : World} {mb : Nat} {s : Mm} {F : List Nat} (h : MI w mb s F) (q : Ac) (hc : s.there (pl q.c : Int) = false) :
    Calls Try.prog 7 #[.pointer (some ⟨mb, 0, none⟩), .agg #[.int .i64 q.kind, .int .i64 q.c, .int .i64 q.x, .int .i64 q.y]] w fun e w' =>
      e = .returned (.tuple #[.int .i64 0, .int .i64 30]) ∧ Keeps (fun _ => False) w w' := by
  by_cases h2 : q.kind = 2
  · refine asked_swap h2 (fun w' => Keeps (fun _ => False) w w') 30 false (fun W k => ?_)
    refine (swap_cell (h.new k) hc q.x q.y).mono ?_
    rintro e w' ⟨rfl, k'⟩
    exact ⟨rfl, k.trans k', false_lt k'⟩
  · by_cases h3 : q.kind = 3
    · refine asked_add h3 (fun w' => Keeps (fun _ => False) w w') 0 30 (fun W k => ?_)
      refine (add_cell (h.new k) hc q.x).mono ?_
      rintro e w' ⟨rfl, k'⟩
      exact ⟨rfl, k.trans k', false_lt k'⟩
    · refine asked_load ⟨h2, h3⟩ (fun w' => Keeps (fun _ => False) w w') 0 30 (fun W k => ?_)
      refine (load_cell (h.new k) hc).mono ?_
      rintro e w' ⟨rfl, k'⟩
      exact ⟨rfl, k.trans k', false_lt k'⟩
/-- An access where no step is open. -/
theorem asked_closed {w : World} {mb : Nat} {s : Mm} {F : List Nat} (h : MI w mb s F) (q : Ac) (hc : s.there (pl q.c : Int) = true) (hf : s.free = false) :
    Calls Try.prog 7 #[.pointer (some ⟨mb, 0, none⟩), .agg #[.int .i64 q.kind, .int .i64 q.c, .int .i64 q.x, .int .i64 q.y]] w fun e w' =>
      e = .returned (.tuple #[.int .i64 0, .int .i64 31]) ∧ Keeps (fun _ => False) w w' := by
  by_cases h2 : q.kind = 2
  · refine asked_swap h2 (fun w' => Keeps (fun _ => False) w w') 31 false (fun W k => ?_)
    refine (swap_closed (h.new k) hc hf q.x q.y).mono ?_
    rintro e w' ⟨rfl, k'⟩
    exact ⟨rfl, k.trans k', false_lt k'⟩
  · by_cases h3 : q.kind = 3
    · refine asked_add h3 (fun w' => Keeps (fun _ => False) w w') 0 31 (fun W k => ?_)
      refine (add_closed (h.new k) hc hf q.x).mono ?_
      rintro e w' ⟨rfl, k'⟩
      exact ⟨rfl, k.trans k', false_lt k'⟩
    · refine asked_load ⟨h2, h3⟩ (fun w' => Keeps (fun _ => False) w w') 0 31 (fun W k => ?_)
      refine (load_closed (h.new k) hc hf).mono ?_
      rintro e w' ⟨rfl, k'⟩
      exact ⟨rfl, k.trans k', false_lt k'⟩
end Go.Proofs.Ytpdhjokbhofglaa
