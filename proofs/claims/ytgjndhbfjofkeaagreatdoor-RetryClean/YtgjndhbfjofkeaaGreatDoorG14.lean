import Derived.Test.YtgjndhbfjofkeaaGreatDoorG13
namespace Go.Proofs.YtgjndhbfjofkeaaGreatDoor
open Go.RowKit
attribute [local go_sem] Oper.semAt_some run_store_nf run_store_f
section
variable {w w' : World} {ρ ρ' ρ'' : Nat → Nat} {u j : Nat} {c : Sc} {ab rb n n' : Nat} {x x' : Tx} {f f' : Int → Option Nat} {s s' : Ws} {m m' : Mm} {r r' : Ro}
set_option maxHeartbeats 1600000 in
set_option maxRecDepth 1000000 in
theorem again_any (h : CL w ab (x.cells c ab)) :
    Calls Tryz.prog 182 #[.pointer (some ⟨ab, 0, none⟩)] w fun e w' => e = .returned (.tuple #[]) ∧ CL w' ab (({ x with nx := some 108 } : Tx).cells c ab) ∧ Keeps (fun k => k = ab) w w' := by
  have hmf : ∀ (fn : Fn) (first cap : Array Value) (w : World), (Instr.makeFunc fn first cap).run Tryz.prog w = .ok (.func fn first cap) w := fun _ _ _ _ => rfl
  have f15 := h.c 15 _ rfl
  have zf15 := h.z 15 (by show 15 < 36; decide)
  go_enter Tryz.func182, Tryz.ntmps182
  go_wp2_with fail
  go_end0
  exact ⟨rfl, h.set (o := 15) (by show 15 < 36; decide) _, (Keeps.refl _ w).setA _ _⟩
set_option maxHeartbeats 1600000 in
set_option maxRecDepth 1000000 in
theorem part_flag (h : CL w ab (x.cells c ab)) (hf : x.flag = true) (g : Nat) :
    Calls Tryz.prog 160 #[.pointer (some ⟨ab, 0, none⟩), .func (.func g) #[.pointer (some ⟨ab, 0, none⟩)] #[]] w fun e w' => e = .returned (.tuple #[]) ∧ CL w' ab (({ x with goOn := some g, nx := some 172 } : Tx).cells c ab) ∧ Keeps (fun k => k = ab) w w' := by
  have hmf : ∀ (fn : Fn) (first cap : Array Value) (w : World), (Instr.makeFunc fn first cap).run Tryz.prog w = .ok (.func fn first cap) w := fun _ _ _ _ => rfl
  have f10 := h.c 10 _ rfl
  have zf10 := h.z 10 (by show 10 < 36; decide)
  have f15 := h.c 15 _ rfl
  have zf15 := h.z 15 (by show 15 < 36; decide)
  have f35 := h.c 35 _ rfl
  have zf35 := h.z 35 (by show 35 < 36; decide)
  rw [hf] at f10
  clear hf
  go_enter Tryz.func160, Tryz.ntmps160
  go_wp2_with fail
  (try simp only [Exit.then])
  refine bodyPost_ret (results_none rfl _ _ _) rfl ?_
  exact ⟨rfl, (h.set (o := 35) (by show 35 < 36; decide) _).set (o := 15) (by show 15 < 36; decide) _, ((Keeps.refl _ w).setA _ _).setA _ _⟩
set_option maxHeartbeats 1600000 in
set_option maxRecDepth 1000000 in
theorem part_free_ok (h : CL w ab (x.cells c ab)) (hf : x.flag = false) {g : Nat} (hcf : ∀ (args : Array Value) (w : World), (callFunc g args).run Tryz.prog w = .ok (.enter g args) w) {Q : World → Prop}
    (hk : ∀ W, CL W ab (({ x with enemy := -1 } : Tx).cells c ab) → Keeps (fun k => k = ab) w W → Calls Tryz.prog g #[.pointer (some ⟨ab, 0, none⟩)] W fun e w' => e = .returned (.tuple #[]) ∧ Q w') :
    Calls Tryz.prog 160 #[.pointer (some ⟨ab, 0, none⟩), .func (.func g) #[.pointer (some ⟨ab, 0, none⟩)] #[]] w fun e w' => e = .returned (.tuple #[]) ∧ Q w' := by
  have f10 := h.c 10 _ rfl
  have zf10 := h.z 10 (by show 10 < 36; decide)
  have f31 := h.c 31 _ rfl
  have zf31 := h.z 31 (by show 31 < 36; decide)
  rw [hf] at f10
  have h1 : CL (w.setCell ⟨ab, 31, none⟩ (.int .i64 (-1))) ab (({ x with enemy := -1 } : Tx).cells c ab) := h.set (o := 31) (by show 31 < 36; decide) _
  have hK := hk _ h1 ((Keeps.refl _ w).setA _ _)
  clear hk hf
  go_enter Tryz.func160, Tryz.ntmps160
  go_wp2_with fail
  refine hK.mono ?_
  rintro e w2 ⟨rfl, hQ⟩
  go_wp2_with fail
  go_end0
  exact ⟨rfl, hQ⟩
set_option maxHeartbeats 1600000 in
set_option maxRecDepth 1000000 in
theorem seen_free_ok (h : CL w ab (x.cells c ab)) (he : x.enemy = -1) {g : Nat} (hn : x.found = some g) (hcf : ∀ (args : Array Value) (w : World), (callFunc g args).run Tryz.prog w = .ok (.enter g args) w) {Q : World → Prop}
    (hk : Calls Tryz.prog g #[.pointer (some ⟨ab, 0, none⟩)] w fun e w' => e = .returned (.tuple #[]) ∧ Q w') :
    Calls Tryz.prog 146 #[.pointer (some ⟨ab, 0, none⟩)] w fun e w' => e = .returned (.tuple #[]) ∧ Q w' := by
  have f30 := h.c 30 _ rfl
  have f31 := h.c 31 _ rfl
  rw [hn] at f30
  simp only [fnv] at f30
  rw [he] at f31
  clear h he hn
  go_enter Tryz.func146, Tryz.ntmps146
  go_wp2_with fail
  refine hk.mono ?_
  rintro e w2 ⟨rfl, hQ⟩
  go_wp2_with fail
  go_end0
  exact ⟨rfl, hQ⟩
set_option maxHeartbeats 1600000 in
set_option maxRecDepth 1000000 in
theorem part_free_no (h : CL w ab (x.cells c ab)) (hf : x.flag = false) {g : Nat} (hcf : ∀ (args : Array Value) (w : World), (callFunc g args).run Tryz.prog w = .ok (.enter g args) w) {Q : World → Prop}
    (hk : ∀ W, CL W ab (({ x with enemy := -1 } : Tx).cells c ab) → Keeps (fun k => k = ab) w W → Calls Tryz.prog g #[.pointer (some ⟨ab, 0, none⟩)] W fun e w' => e = stale4 ∧ Q w') :
    Calls Tryz.prog 160 #[.pointer (some ⟨ab, 0, none⟩), .func (.func g) #[.pointer (some ⟨ab, 0, none⟩)] #[]] w fun e w' => e = stale4 ∧ Q w' := by
  have f10 := h.c 10 _ rfl
  have zf10 := h.z 10 (by show 10 < 36; decide)
  have f31 := h.c 31 _ rfl
  have zf31 := h.z 31 (by show 31 < 36; decide)
  rw [hf] at f10
  have h1 : CL (w.setCell ⟨ab, 31, none⟩ (.int .i64 (-1))) ab (({ x with enemy := -1 } : Tx).cells c ab) := h.set (o := 31) (by show 31 < 36; decide) _
  have hK := hk _ h1 ((Keeps.refl _ w).setA _ _)
  clear hk hf
  go_enter Tryz.func160, Tryz.ntmps160
  go_wp2_with fail
  refine hK.mono ?_
  rintro e w2 ⟨rfl, hQ⟩
  exact ⟨rfl, rfl, hQ⟩
set_option maxHeartbeats 1600000 in
set_option maxRecDepth 1000000 in
theorem seen_free_no (h : CL w ab (x.cells c ab)) (he : x.enemy = -1) {g : Nat} (hn : x.found = some g) (hcf : ∀ (args : Array Value) (w : World), (callFunc g args).run Tryz.prog w = .ok (.enter g args) w) {Q : World → Prop}
    (hk : Calls Tryz.prog g #[.pointer (some ⟨ab, 0, none⟩)] w fun e w' => e = stale4 ∧ Q w') :
    Calls Tryz.prog 146 #[.pointer (some ⟨ab, 0, none⟩)] w fun e w' => e = stale4 ∧ Q w' := by
  have f30 := h.c 30 _ rfl
  have f31 := h.c 31 _ rfl
  rw [hn] at f30
  simp only [fnv] at f30
  rw [he] at f31
  clear h he hn
  go_enter Tryz.func146, Tryz.ntmps146
  go_wp2_with fail
  refine hk.mono ?_
  rintro e w2 ⟨rfl, hQ⟩
  exact ⟨rfl, rfl, hQ⟩
set_option maxHeartbeats 1600000 in
set_option maxRecDepth 1000000 in
theorem seen_same (h : CL w ab (x.cells c ab)) (he : x.enemy ≠ -1) (hs : x.status = 1) (hh : x.holder = x.enemy) :
    Calls Tryz.prog 146 #[.pointer (some ⟨ab, 0, none⟩)] w fun e w' => e = .returned (.tuple #[]) ∧ CL w' ab (({ x with nx := some 132 } : Tx).cells c ab) ∧ Keeps (fun k => k = ab) w w' := by
  have hmf : ∀ (fn : Fn) (first cap : Array Value) (w : World), (Instr.makeFunc fn first cap).run Tryz.prog w = .ok (.func fn first cap) w := fun _ _ _ _ => rfl
  have f15 := h.c 15 _ rfl
  have zf15 := h.z 15 (by show 15 < 36; decide)
  have f27 := h.c 27 _ rfl
  have zf27 := h.z 27 (by show 27 < 36; decide)
  have f28 := h.c 28 _ rfl
  have zf28 := h.z 28 (by show 28 < 36; decide)
  have f31 := h.c 31 _ rfl
  have zf31 := h.z 31 (by show 31 < 36; decide)
  rw [hs] at f28
  rw [hh] at f27
  have he' : (x.enemy == -1) = false := beq_eq_false_iff_ne.2 he
  have h1 := h.drew
  have g15 := h1.c 15 _ rfl
  have zg15 := h1.z 15 (by show 15 < 36; decide)
  have g27 := h1.c 27 _ rfl
  have zg27 := h1.z 27 (by show 27 < 36; decide)
  have g28 := h1.c 28 _ rfl
  have zg28 := h1.z 28 (by show 28 < 36; decide)
  have g31 := h1.c 31 _ rfl
  have zg31 := h1.z 31 (by show 31 < 36; decide)
  have g28' : w.drew.cell? ⟨ab, 28, none⟩ = some (.int .i64 1) := by rw [← hs]; exact g28
  have g27' : w.drew.cell? ⟨ab, 27, none⟩ = some (.int .i64 x.enemy) := by rw [← hh]; exact g27
  clear hs hh he g28 g27
  go_enter Tryz.func146, Tryz.ntmps146
  go_wp2_with fail
  go_region_held3 (fun w' => w'.cell? ⟨ab, 28, none⟩ = some (.int .i64 1) ∧ w'.cell? ⟨ab, 27, none⟩ = some (.int .i64 x.enemy) ∧ w'.cell? ⟨ab, 31, none⟩ = some (.int .i64 x.enemy)) (go_keep) (fail)
  go_wp2_with fail
  go_end0
  exact ⟨rfl, h1.set (o := 15) (by show 15 < 36; decide) _, ((Keeps.refl _ w).drew).setA _ _⟩
set_option maxHeartbeats 1600000 in
set_option maxRecDepth 1000000 in
theorem seen_other_s_ok (h : CL w ab (x.cells c ab)) (he : x.enemy ≠ -1) (hs : x.status ≠ 1) {g : Nat} (hn : x.found = some g) {Q : World → Prop}
    (hk : ∀ W, CL W ab (x.cells c ab) → Keeps (fun _ => False) w W → Calls Tryz.prog 160 #[.pointer (some ⟨ab, 0, none⟩), .func (.func g) #[.pointer (some ⟨ab, 0, none⟩)] #[]] W fun e w' => e = .returned (.tuple #[]) ∧ Q w') :
    Calls Tryz.prog 146 #[.pointer (some ⟨ab, 0, none⟩)] w fun e w' => e = .returned (.tuple #[]) ∧ Q w' := by
  have f27 := h.c 27 _ rfl
  have zf27 := h.z 27 (by show 27 < 36; decide)
  have f28 := h.c 28 _ rfl
  have zf28 := h.z 28 (by show 28 < 36; decide)
  have f31 := h.c 31 _ rfl
  have zf31 := h.z 31 (by show 31 < 36; decide)
  have he' : (x.enemy == -1) = false := beq_eq_false_iff_ne.2 he
  have h1 := h.drew
  have g27 := h1.c 27 _ rfl
  have g28 := h1.c 28 _ rfl
  have g30 := h1.c 30 _ rfl
  have g31 := h1.c 31 _ rfl
  rw [hn] at g30
  simp only [fnv] at g30
  have hK := hk _ h1 (Keeps.refl _ w).drew
  have hs' : (x.status == 1) = false := beq_eq_false_iff_ne.2 hs
  clear hs he hn hk
  go_enter Tryz.func146, Tryz.ntmps146
  go_wp2_with fail
  refine wp_region_held_drew (S := fun w' => w'.cell? ⟨ab, 28, none⟩ = some (.int .i64 x.status)) (by kernel_rfl) g28 (fun hHeld => ?_)
  refine wpAnyH_take (i := 0) (v := ?_) rfl (by kernel_rfl) (by kernel_rfl) (by kernel_rfl) (fun _ _ _ h => h) (Or.inl ⟨by rfl, ?_⟩) (by assumption) ?_
  rotate_left
  · intro wx hSw; (try dsimp only at hSw); go_simp <;> with_reducible rfl
  (try simp only [List.getElem_toArray]); (try simp only [List.getElem_cons_succ]); (try simp only [List.getElem_cons_zero]); (try simp only [Act.put]); (try simp only [List.setIfInBounds_toArray]); (repeat first | simp only [List.set_cons_succ] | simp only [List.set_cons_zero])
  refine wpAnyH_take (i := 1) (v := ?_) rfl (by kernel_rfl) (by kernel_rfl) (by kernel_rfl) (fun _ _ _ h => h) (Or.inl ⟨by rfl, ?_⟩) (by assumption) ?_
  rotate_left
  · intro wx hSw; (try dsimp only at hSw); go_simp <;> with_reducible rfl
  (try simp only [List.getElem_toArray]); (try simp only [List.getElem_cons_succ]); (try simp only [List.getElem_cons_zero]); (try simp only [Act.put]); (try simp only [List.setIfInBounds_toArray]); (repeat first | simp only [List.set_cons_succ] | simp only [List.set_cons_zero])
  refine wpAnyH_take (i := 2) (v := ?_) rfl (by kernel_rfl) (by kernel_rfl) (by kernel_rfl) (fun _ _ _ h => h) (Or.inl ⟨by rfl, ?_⟩) (by assumption) ?_
  rotate_left
  · intro wx hSw; (try dsimp only at hSw); go_simp <;> with_reducible rfl
  (try simp only [List.getElem_toArray]); (try simp only [List.getElem_cons_succ]); (try simp only [List.getElem_cons_zero]); (try simp only [Act.put]); (try simp only [List.setIfInBounds_toArray]); (repeat first | simp only [List.set_cons_succ] | simp only [List.set_cons_zero])
  refine wpAnyH_take (i := 3) (v := ?_) rfl (by kernel_rfl) (by kernel_rfl) (by kernel_rfl) (fun _ _ _ h => h) (Or.inl ⟨by rfl, ?_⟩) (by assumption) ?_
  rotate_left
  · intro wx hSw; (try dsimp only at hSw); go_simp <;> with_reducible rfl
  (try simp only [List.getElem_toArray]); (try simp only [List.getElem_cons_succ]); (try simp only [List.getElem_cons_zero]); (try simp only [Act.put]); (try simp only [List.setIfInBounds_toArray]); (repeat first | simp only [List.set_cons_succ] | simp only [List.set_cons_zero])
  refine wpAnyH_take (i := 4) (v := ?_) rfl (by kernel_rfl) (by kernel_rfl) (by kernel_rfl) (fun _ _ _ h => h) (Or.inl ⟨by rfl, ?_⟩) (by assumption) ?_
  rotate_left
  · intro wx hSw; (try dsimp only at hSw); go_simp <;> with_reducible rfl
  (try simp only [List.getElem_toArray]); (try simp only [List.getElem_cons_succ]); (try simp only [List.getElem_cons_zero]); (try simp only [Act.put]); (try simp only [List.setIfInBounds_toArray]); (repeat first | simp only [List.set_cons_succ] | simp only [List.set_cons_zero])
  refine wpAnyH_take (i := 5) (v := ?_) rfl (by kernel_rfl) (by kernel_rfl) (by kernel_rfl) (fun _ _ _ h => h) (Or.inl ⟨by rfl, ?_⟩) (by assumption) ?_
  rotate_left
  · intro wx hSw; (try dsimp only at hSw); go_simp <;> with_reducible rfl
  (try simp only [List.getElem_toArray]); (try simp only [List.getElem_cons_succ]); (try simp only [List.getElem_cons_zero]); (try simp only [Act.put]); (try simp only [List.setIfInBounds_toArray]); (repeat first | simp only [List.set_cons_succ] | simp only [List.set_cons_zero])
  refine wpAnyH_take (i := 6) (v := ?_) rfl (by kernel_rfl) (by kernel_rfl) (by kernel_rfl) (fun _ _ _ h => h) (Or.inl ⟨by rfl, ?_⟩) (by assumption) ?_
  rotate_left
  · intro wx hSw; (try dsimp only at hSw); go_simp <;> with_reducible rfl
  (try simp only [List.getElem_toArray]); (try simp only [List.getElem_cons_succ]); (try simp only [List.getElem_cons_zero]); (try simp only [Act.put]); (try simp only [List.setIfInBounds_toArray]); (repeat first | simp only [List.set_cons_succ] | simp only [List.set_cons_zero])
  refine wpAnyH_take (i := 7) (v := ?_) rfl (by kernel_rfl) (by kernel_rfl) (by kernel_rfl) (fun _ _ _ h => h) (Or.inl ⟨by rfl, ?_⟩) (by assumption) ?_
  rotate_left
  · intro wx hSw; (try dsimp only at hSw); go_simp <;> with_reducible rfl
  (try simp only [List.getElem_toArray]); (try simp only [List.getElem_cons_succ]); (try simp only [List.getElem_cons_zero]); (try simp only [Act.put]); (try simp only [List.setIfInBounds_toArray]); (repeat first | simp only [List.set_cons_succ] | simp only [List.set_cons_zero])
  refine wpAnyH_take (i := 8) (v := undef) rfl (by kernel_rfl) (by kernel_rfl) (by kernel_rfl) (fun _ _ _ h => h) (Or.inr ⟨by rfl, rfl⟩) (by assumption) ?_
  (try simp only [List.getElem_toArray]); (try simp only [List.getElem_cons_succ]); (try simp only [List.getElem_cons_zero]); (try simp only [Act.put]); (try simp only [List.setIfInBounds_toArray]); (repeat first | simp only [List.set_cons_succ] | simp only [List.set_cons_zero])
  refine wpAnyH_take (i := 9) (v := undef) rfl (by kernel_rfl) (by kernel_rfl) (by kernel_rfl) (fun _ _ _ h => h) (Or.inr ⟨by rfl, rfl⟩) (by assumption) ?_
  (try simp only [List.getElem_toArray]); (try simp only [List.getElem_cons_succ]); (try simp only [List.getElem_cons_zero]); (try simp only [Act.put]); (try simp only [List.setIfInBounds_toArray]); (repeat first | simp only [List.set_cons_succ] | simp only [List.set_cons_zero])
  refine wpAnyH_take (i := 10) (v := undef) rfl (by kernel_rfl) (by kernel_rfl) (by kernel_rfl) (fun _ _ _ h => h) (Or.inr ⟨by rfl, rfl⟩) (by assumption) ?_
  (try simp only [List.getElem_toArray]); (try simp only [List.getElem_cons_succ]); (try simp only [List.getElem_cons_zero]); (try simp only [Act.put]); (try simp only [List.setIfInBounds_toArray]); (repeat first | simp only [List.set_cons_succ] | simp only [List.set_cons_zero])
  refine wpAnyH_take (i := 11) (v := undef) rfl (by kernel_rfl) (by kernel_rfl) (by kernel_rfl) (fun _ _ _ h => h) (Or.inr ⟨by rfl, rfl⟩) (by assumption) ?_
  (try simp only [List.getElem_toArray]); (try simp only [List.getElem_cons_succ]); (try simp only [List.getElem_cons_zero]); (try simp only [Act.put]); (try simp only [List.setIfInBounds_toArray]); (repeat first | simp only [List.set_cons_succ] | simp only [List.set_cons_zero])
  refine wpAnyH_take (i := 12) (v := undef) rfl (by kernel_rfl) (by kernel_rfl) (by kernel_rfl) (fun _ _ _ h => h) (Or.inr ⟨by rfl, rfl⟩) (by assumption) ?_
  (try simp only [List.getElem_toArray]); (try simp only [List.getElem_cons_succ]); (try simp only [List.getElem_cons_zero]); (try simp only [Act.put]); (try simp only [List.setIfInBounds_toArray]); (repeat first | simp only [List.set_cons_succ] | simp only [List.set_cons_zero])
  refine wpAnyH_take (i := 13) (v := undef) rfl (by kernel_rfl) (by kernel_rfl) (by kernel_rfl) (fun _ _ _ h => h) (Or.inr ⟨by rfl, rfl⟩) (by assumption) ?_
  (try simp only [List.getElem_toArray]); (try simp only [List.getElem_cons_succ]); (try simp only [List.getElem_cons_zero]); (try simp only [Act.put]); (try simp only [List.setIfInBounds_toArray]); (repeat first | simp only [List.set_cons_succ] | simp only [List.set_cons_zero])
  refine wpAnyH_take (i := 14) (v := undef) rfl (by kernel_rfl) (by kernel_rfl) (by kernel_rfl) (fun _ _ _ h => h) (Or.inr ⟨by rfl, rfl⟩) (by assumption) ?_
  (try simp only [List.getElem_toArray]); (try simp only [List.getElem_cons_succ]); (try simp only [List.getElem_cons_zero]); (try simp only [Act.put]); (try simp only [List.setIfInBounds_toArray]); (repeat first | simp only [List.set_cons_succ] | simp only [List.set_cons_zero])
  refine wpAnyH_take (i := 15) (v := undef) rfl (by kernel_rfl) (by kernel_rfl) (by kernel_rfl) (fun _ _ _ h => h) (Or.inr ⟨by rfl, rfl⟩) (by assumption) ?_
  (try simp only [List.getElem_toArray]); (try simp only [List.getElem_cons_succ]); (try simp only [List.getElem_cons_zero]); (try simp only [Act.put]); (try simp only [List.setIfInBounds_toArray]); (repeat first | simp only [List.set_cons_succ] | simp only [List.set_cons_zero])
  refine wpAnyH_take (i := 16) (v := undef) rfl (by kernel_rfl) (by kernel_rfl) (by kernel_rfl) (fun _ _ _ h => h) (Or.inr ⟨by rfl, rfl⟩) (by assumption) ?_
  (try simp only [List.getElem_toArray]); (try simp only [List.getElem_cons_succ]); (try simp only [List.getElem_cons_zero]); (try simp only [Act.put]); (try simp only [List.setIfInBounds_toArray]); (repeat first | simp only [List.set_cons_succ] | simp only [List.set_cons_zero])
  refine wpAnyH_take (i := 17) (v := undef) rfl (by kernel_rfl) (by kernel_rfl) (by kernel_rfl) (fun _ _ _ h => h) (Or.inr ⟨by rfl, rfl⟩) (by assumption) ?_
  (try simp only [List.getElem_toArray]); (try simp only [List.getElem_cons_succ]); (try simp only [List.getElem_cons_zero]); (try simp only [Act.put]); (try simp only [List.setIfInBounds_toArray]); (repeat first | simp only [List.set_cons_succ] | simp only [List.set_cons_zero])
  refine wpAnyH_take (i := 18) (v := undef) rfl (by kernel_rfl) (by kernel_rfl) (by kernel_rfl) (fun _ _ _ h => h) (Or.inr ⟨by rfl, rfl⟩) (by assumption) ?_
  (try simp only [List.getElem_toArray]); (try simp only [List.getElem_cons_succ]); (try simp only [List.getElem_cons_zero]); (try simp only [Act.put]); (try simp only [List.setIfInBounds_toArray]); (repeat first | simp only [List.set_cons_succ] | simp only [List.set_cons_zero])
  refine wpAnyH_take (i := 19) (v := undef) rfl (by kernel_rfl) (by kernel_rfl) (by kernel_rfl) (fun _ _ _ h => h) (Or.inr ⟨by rfl, rfl⟩) (by assumption) ?_
  (try simp only [List.getElem_toArray]); (try simp only [List.getElem_cons_succ]); (try simp only [List.getElem_cons_zero]); (try simp only [Act.put]); (try simp only [List.setIfInBounds_toArray]); (repeat first | simp only [List.set_cons_succ] | simp only [List.set_cons_zero])
  refine wpAnyH_take (i := 20) (v := undef) rfl (by kernel_rfl) (by kernel_rfl) (by kernel_rfl) (fun _ _ _ h => h) (Or.inr ⟨by rfl, rfl⟩) (by assumption) ?_
  (try simp only [List.getElem_toArray]); (try simp only [List.getElem_cons_succ]); (try simp only [List.getElem_cons_zero]); (try simp only [Act.put]); (try simp only [List.setIfInBounds_toArray]); (repeat first | simp only [List.set_cons_succ] | simp only [List.set_cons_zero])
  refine wpAnyH_take (i := 21) (v := ?_) rfl (by kernel_rfl) (by kernel_rfl) (by kernel_rfl) (fun _ _ _ h => h) (Or.inl ⟨by rfl, ?_⟩) (by assumption) ?_
  rotate_left
  · intro wx hSw; (try dsimp only at hSw); go_simp <;> with_reducible rfl
  (try simp only [List.getElem_toArray]); (try simp only [List.getElem_cons_succ]); (try simp only [List.getElem_cons_zero]); (try simp only [Act.put]); (try simp only [List.setIfInBounds_toArray]); (repeat first | simp only [List.set_cons_succ] | simp only [List.set_cons_zero])
  refine wpAnyH_take (i := 22) (v := ?_) rfl (by kernel_rfl) (by kernel_rfl) (by kernel_rfl) (fun _ _ _ h => h) (Or.inl ⟨by rfl, ?_⟩) (by assumption) ?_
  rotate_left
  · intro wx hSw; (try dsimp only at hSw); go_simp <;> with_reducible rfl
  (try simp only [List.getElem_toArray]); (try simp only [List.getElem_cons_succ]); (try simp only [List.getElem_cons_zero]); (try simp only [Act.put]); (try simp only [List.setIfInBounds_toArray]); (repeat first | simp only [List.set_cons_succ] | simp only [List.set_cons_zero])
  refine wpAnyH_done (by kernel_rfl) ?_ _
  go_wp2_with fail
  refine hK.mono ?_
  rintro e w2 ⟨rfl, hQ⟩
  go_wp2_with fail
  go_end0
  exact ⟨rfl, hQ⟩
set_option maxHeartbeats 1600000 in
set_option maxRecDepth 1000000 in
theorem seen_other_s_no (h : CL w ab (x.cells c ab)) (he : x.enemy ≠ -1) (hs : x.status ≠ 1) {g : Nat} (hn : x.found = some g) {Q : World → Prop}
    (hk : ∀ W, CL W ab (x.cells c ab) → Keeps (fun _ => False) w W → Calls Tryz.prog 160 #[.pointer (some ⟨ab, 0, none⟩), .func (.func g) #[.pointer (some ⟨ab, 0, none⟩)] #[]] W fun e w' => e = stale4 ∧ Q w') :
    Calls Tryz.prog 146 #[.pointer (some ⟨ab, 0, none⟩)] w fun e w' => e = stale4 ∧ Q w' := by
  have f27 := h.c 27 _ rfl
  have zf27 := h.z 27 (by show 27 < 36; decide)
  have f28 := h.c 28 _ rfl
  have zf28 := h.z 28 (by show 28 < 36; decide)
  have f31 := h.c 31 _ rfl
  have zf31 := h.z 31 (by show 31 < 36; decide)
  have he' : (x.enemy == -1) = false := beq_eq_false_iff_ne.2 he
  have h1 := h.drew
  have g27 := h1.c 27 _ rfl
  have g28 := h1.c 28 _ rfl
  have g30 := h1.c 30 _ rfl
  have g31 := h1.c 31 _ rfl
  rw [hn] at g30
  simp only [fnv] at g30
  have hK := hk _ h1 (Keeps.refl _ w).drew
  have hs' : (x.status == 1) = false := beq_eq_false_iff_ne.2 hs
  clear hs he hn hk
  go_enter Tryz.func146, Tryz.ntmps146
  go_wp2_with fail
  refine wp_region_held_drew (S := fun w' => w'.cell? ⟨ab, 28, none⟩ = some (.int .i64 x.status)) (by kernel_rfl) g28 (fun hHeld => ?_)
  refine wpAnyH_take (i := 0) (v := ?_) rfl (by kernel_rfl) (by kernel_rfl) (by kernel_rfl) (fun _ _ _ h => h) (Or.inl ⟨by rfl, ?_⟩) (by assumption) ?_
  rotate_left
  · intro wx hSw; (try dsimp only at hSw); go_simp <;> with_reducible rfl
  (try simp only [List.getElem_toArray]); (try simp only [List.getElem_cons_succ]); (try simp only [List.getElem_cons_zero]); (try simp only [Act.put]); (try simp only [List.setIfInBounds_toArray]); (repeat first | simp only [List.set_cons_succ] | simp only [List.set_cons_zero])
  refine wpAnyH_take (i := 1) (v := ?_) rfl (by kernel_rfl) (by kernel_rfl) (by kernel_rfl) (fun _ _ _ h => h) (Or.inl ⟨by rfl, ?_⟩) (by assumption) ?_
  rotate_left
  · intro wx hSw; (try dsimp only at hSw); go_simp <;> with_reducible rfl
  (try simp only [List.getElem_toArray]); (try simp only [List.getElem_cons_succ]); (try simp only [List.getElem_cons_zero]); (try simp only [Act.put]); (try simp only [List.setIfInBounds_toArray]); (repeat first | simp only [List.set_cons_succ] | simp only [List.set_cons_zero])
  refine wpAnyH_take (i := 2) (v := ?_) rfl (by kernel_rfl) (by kernel_rfl) (by kernel_rfl) (fun _ _ _ h => h) (Or.inl ⟨by rfl, ?_⟩) (by assumption) ?_
  rotate_left
  · intro wx hSw; (try dsimp only at hSw); go_simp <;> with_reducible rfl
  (try simp only [List.getElem_toArray]); (try simp only [List.getElem_cons_succ]); (try simp only [List.getElem_cons_zero]); (try simp only [Act.put]); (try simp only [List.setIfInBounds_toArray]); (repeat first | simp only [List.set_cons_succ] | simp only [List.set_cons_zero])
  refine wpAnyH_take (i := 3) (v := ?_) rfl (by kernel_rfl) (by kernel_rfl) (by kernel_rfl) (fun _ _ _ h => h) (Or.inl ⟨by rfl, ?_⟩) (by assumption) ?_
  rotate_left
  · intro wx hSw; (try dsimp only at hSw); go_simp <;> with_reducible rfl
  (try simp only [List.getElem_toArray]); (try simp only [List.getElem_cons_succ]); (try simp only [List.getElem_cons_zero]); (try simp only [Act.put]); (try simp only [List.setIfInBounds_toArray]); (repeat first | simp only [List.set_cons_succ] | simp only [List.set_cons_zero])
  refine wpAnyH_take (i := 4) (v := ?_) rfl (by kernel_rfl) (by kernel_rfl) (by kernel_rfl) (fun _ _ _ h => h) (Or.inl ⟨by rfl, ?_⟩) (by assumption) ?_
  rotate_left
  · intro wx hSw; (try dsimp only at hSw); go_simp <;> with_reducible rfl
  (try simp only [List.getElem_toArray]); (try simp only [List.getElem_cons_succ]); (try simp only [List.getElem_cons_zero]); (try simp only [Act.put]); (try simp only [List.setIfInBounds_toArray]); (repeat first | simp only [List.set_cons_succ] | simp only [List.set_cons_zero])
  refine wpAnyH_take (i := 5) (v := ?_) rfl (by kernel_rfl) (by kernel_rfl) (by kernel_rfl) (fun _ _ _ h => h) (Or.inl ⟨by rfl, ?_⟩) (by assumption) ?_
  rotate_left
  · intro wx hSw; (try dsimp only at hSw); go_simp <;> with_reducible rfl
  (try simp only [List.getElem_toArray]); (try simp only [List.getElem_cons_succ]); (try simp only [List.getElem_cons_zero]); (try simp only [Act.put]); (try simp only [List.setIfInBounds_toArray]); (repeat first | simp only [List.set_cons_succ] | simp only [List.set_cons_zero])
  refine wpAnyH_take (i := 6) (v := ?_) rfl (by kernel_rfl) (by kernel_rfl) (by kernel_rfl) (fun _ _ _ h => h) (Or.inl ⟨by rfl, ?_⟩) (by assumption) ?_
  rotate_left
  · intro wx hSw; (try dsimp only at hSw); go_simp <;> with_reducible rfl
  (try simp only [List.getElem_toArray]); (try simp only [List.getElem_cons_succ]); (try simp only [List.getElem_cons_zero]); (try simp only [Act.put]); (try simp only [List.setIfInBounds_toArray]); (repeat first | simp only [List.set_cons_succ] | simp only [List.set_cons_zero])
  refine wpAnyH_take (i := 7) (v := ?_) rfl (by kernel_rfl) (by kernel_rfl) (by kernel_rfl) (fun _ _ _ h => h) (Or.inl ⟨by rfl, ?_⟩) (by assumption) ?_
  rotate_left
  · intro wx hSw; (try dsimp only at hSw); go_simp <;> with_reducible rfl
  (try simp only [List.getElem_toArray]); (try simp only [List.getElem_cons_succ]); (try simp only [List.getElem_cons_zero]); (try simp only [Act.put]); (try simp only [List.setIfInBounds_toArray]); (repeat first | simp only [List.set_cons_succ] | simp only [List.set_cons_zero])
  refine wpAnyH_take (i := 8) (v := undef) rfl (by kernel_rfl) (by kernel_rfl) (by kernel_rfl) (fun _ _ _ h => h) (Or.inr ⟨by rfl, rfl⟩) (by assumption) ?_
  (try simp only [List.getElem_toArray]); (try simp only [List.getElem_cons_succ]); (try simp only [List.getElem_cons_zero]); (try simp only [Act.put]); (try simp only [List.setIfInBounds_toArray]); (repeat first | simp only [List.set_cons_succ] | simp only [List.set_cons_zero])
  refine wpAnyH_take (i := 9) (v := undef) rfl (by kernel_rfl) (by kernel_rfl) (by kernel_rfl) (fun _ _ _ h => h) (Or.inr ⟨by rfl, rfl⟩) (by assumption) ?_
  (try simp only [List.getElem_toArray]); (try simp only [List.getElem_cons_succ]); (try simp only [List.getElem_cons_zero]); (try simp only [Act.put]); (try simp only [List.setIfInBounds_toArray]); (repeat first | simp only [List.set_cons_succ] | simp only [List.set_cons_zero])
  refine wpAnyH_take (i := 10) (v := undef) rfl (by kernel_rfl) (by kernel_rfl) (by kernel_rfl) (fun _ _ _ h => h) (Or.inr ⟨by rfl, rfl⟩) (by assumption) ?_
  (try simp only [List.getElem_toArray]); (try simp only [List.getElem_cons_succ]); (try simp only [List.getElem_cons_zero]); (try simp only [Act.put]); (try simp only [List.setIfInBounds_toArray]); (repeat first | simp only [List.set_cons_succ] | simp only [List.set_cons_zero])
  refine wpAnyH_take (i := 11) (v := undef) rfl (by kernel_rfl) (by kernel_rfl) (by kernel_rfl) (fun _ _ _ h => h) (Or.inr ⟨by rfl, rfl⟩) (by assumption) ?_
  (try simp only [List.getElem_toArray]); (try simp only [List.getElem_cons_succ]); (try simp only [List.getElem_cons_zero]); (try simp only [Act.put]); (try simp only [List.setIfInBounds_toArray]); (repeat first | simp only [List.set_cons_succ] | simp only [List.set_cons_zero])
  refine wpAnyH_take (i := 12) (v := undef) rfl (by kernel_rfl) (by kernel_rfl) (by kernel_rfl) (fun _ _ _ h => h) (Or.inr ⟨by rfl, rfl⟩) (by assumption) ?_
  (try simp only [List.getElem_toArray]); (try simp only [List.getElem_cons_succ]); (try simp only [List.getElem_cons_zero]); (try simp only [Act.put]); (try simp only [List.setIfInBounds_toArray]); (repeat first | simp only [List.set_cons_succ] | simp only [List.set_cons_zero])
  refine wpAnyH_take (i := 13) (v := undef) rfl (by kernel_rfl) (by kernel_rfl) (by kernel_rfl) (fun _ _ _ h => h) (Or.inr ⟨by rfl, rfl⟩) (by assumption) ?_
  (try simp only [List.getElem_toArray]); (try simp only [List.getElem_cons_succ]); (try simp only [List.getElem_cons_zero]); (try simp only [Act.put]); (try simp only [List.setIfInBounds_toArray]); (repeat first | simp only [List.set_cons_succ] | simp only [List.set_cons_zero])
  refine wpAnyH_take (i := 14) (v := undef) rfl (by kernel_rfl) (by kernel_rfl) (by kernel_rfl) (fun _ _ _ h => h) (Or.inr ⟨by rfl, rfl⟩) (by assumption) ?_
  (try simp only [List.getElem_toArray]); (try simp only [List.getElem_cons_succ]); (try simp only [List.getElem_cons_zero]); (try simp only [Act.put]); (try simp only [List.setIfInBounds_toArray]); (repeat first | simp only [List.set_cons_succ] | simp only [List.set_cons_zero])
  refine wpAnyH_take (i := 15) (v := undef) rfl (by kernel_rfl) (by kernel_rfl) (by kernel_rfl) (fun _ _ _ h => h) (Or.inr ⟨by rfl, rfl⟩) (by assumption) ?_
  (try simp only [List.getElem_toArray]); (try simp only [List.getElem_cons_succ]); (try simp only [List.getElem_cons_zero]); (try simp only [Act.put]); (try simp only [List.setIfInBounds_toArray]); (repeat first | simp only [List.set_cons_succ] | simp only [List.set_cons_zero])
  refine wpAnyH_take (i := 16) (v := undef) rfl (by kernel_rfl) (by kernel_rfl) (by kernel_rfl) (fun _ _ _ h => h) (Or.inr ⟨by rfl, rfl⟩) (by assumption) ?_
  (try simp only [List.getElem_toArray]); (try simp only [List.getElem_cons_succ]); (try simp only [List.getElem_cons_zero]); (try simp only [Act.put]); (try simp only [List.setIfInBounds_toArray]); (repeat first | simp only [List.set_cons_succ] | simp only [List.set_cons_zero])
  refine wpAnyH_take (i := 17) (v := undef) rfl (by kernel_rfl) (by kernel_rfl) (by kernel_rfl) (fun _ _ _ h => h) (Or.inr ⟨by rfl, rfl⟩) (by assumption) ?_
  (try simp only [List.getElem_toArray]); (try simp only [List.getElem_cons_succ]); (try simp only [List.getElem_cons_zero]); (try simp only [Act.put]); (try simp only [List.setIfInBounds_toArray]); (repeat first | simp only [List.set_cons_succ] | simp only [List.set_cons_zero])
  refine wpAnyH_take (i := 18) (v := undef) rfl (by kernel_rfl) (by kernel_rfl) (by kernel_rfl) (fun _ _ _ h => h) (Or.inr ⟨by rfl, rfl⟩) (by assumption) ?_
  (try simp only [List.getElem_toArray]); (try simp only [List.getElem_cons_succ]); (try simp only [List.getElem_cons_zero]); (try simp only [Act.put]); (try simp only [List.setIfInBounds_toArray]); (repeat first | simp only [List.set_cons_succ] | simp only [List.set_cons_zero])
  refine wpAnyH_take (i := 19) (v := undef) rfl (by kernel_rfl) (by kernel_rfl) (by kernel_rfl) (fun _ _ _ h => h) (Or.inr ⟨by rfl, rfl⟩) (by assumption) ?_
  (try simp only [List.getElem_toArray]); (try simp only [List.getElem_cons_succ]); (try simp only [List.getElem_cons_zero]); (try simp only [Act.put]); (try simp only [List.setIfInBounds_toArray]); (repeat first | simp only [List.set_cons_succ] | simp only [List.set_cons_zero])
  refine wpAnyH_take (i := 20) (v := undef) rfl (by kernel_rfl) (by kernel_rfl) (by kernel_rfl) (fun _ _ _ h => h) (Or.inr ⟨by rfl, rfl⟩) (by assumption) ?_
  (try simp only [List.getElem_toArray]); (try simp only [List.getElem_cons_succ]); (try simp only [List.getElem_cons_zero]); (try simp only [Act.put]); (try simp only [List.setIfInBounds_toArray]); (repeat first | simp only [List.set_cons_succ] | simp only [List.set_cons_zero])
  refine wpAnyH_take (i := 21) (v := ?_) rfl (by kernel_rfl) (by kernel_rfl) (by kernel_rfl) (fun _ _ _ h => h) (Or.inl ⟨by rfl, ?_⟩) (by assumption) ?_
  rotate_left
  · intro wx hSw; (try dsimp only at hSw); go_simp <;> with_reducible rfl
  (try simp only [List.getElem_toArray]); (try simp only [List.getElem_cons_succ]); (try simp only [List.getElem_cons_zero]); (try simp only [Act.put]); (try simp only [List.setIfInBounds_toArray]); (repeat first | simp only [List.set_cons_succ] | simp only [List.set_cons_zero])
  refine wpAnyH_take (i := 22) (v := ?_) rfl (by kernel_rfl) (by kernel_rfl) (by kernel_rfl) (fun _ _ _ h => h) (Or.inl ⟨by rfl, ?_⟩) (by assumption) ?_
  rotate_left
  · intro wx hSw; (try dsimp only at hSw); go_simp <;> with_reducible rfl
  (try simp only [List.getElem_toArray]); (try simp only [List.getElem_cons_succ]); (try simp only [List.getElem_cons_zero]); (try simp only [Act.put]); (try simp only [List.setIfInBounds_toArray]); (repeat first | simp only [List.set_cons_succ] | simp only [List.set_cons_zero])
  refine wpAnyH_done (by kernel_rfl) ?_ _
  go_wp2_with fail
  refine hK.mono ?_
  rintro e w2 ⟨rfl, hQ⟩
  exact ⟨rfl, rfl, hQ⟩
set_option maxHeartbeats 1600000 in
set_option maxRecDepth 1000000 in
theorem seen_other_h_ok (h : CL w ab (x.cells c ab)) (he : x.enemy ≠ -1) (hs : x.status = 1) (hh : x.holder ≠ x.enemy) {g : Nat} (hn : x.found = some g) {Q : World → Prop}
    (hk : ∀ W, CL W ab (x.cells c ab) → Keeps (fun _ => False) w W → Calls Tryz.prog 160 #[.pointer (some ⟨ab, 0, none⟩), .func (.func g) #[.pointer (some ⟨ab, 0, none⟩)] #[]] W fun e w' => e = .returned (.tuple #[]) ∧ Q w') :
    Calls Tryz.prog 146 #[.pointer (some ⟨ab, 0, none⟩)] w fun e w' => e = .returned (.tuple #[]) ∧ Q w' := by
  have f27 := h.c 27 _ rfl
  have zf27 := h.z 27 (by show 27 < 36; decide)
  have f28 := h.c 28 _ rfl
  have zf28 := h.z 28 (by show 28 < 36; decide)
  have f31 := h.c 31 _ rfl
  have zf31 := h.z 31 (by show 31 < 36; decide)
  have he' : (x.enemy == -1) = false := beq_eq_false_iff_ne.2 he
  have h1 := h.drew
  have g27 := h1.c 27 _ rfl
  have g28 := h1.c 28 _ rfl
  have g30 := h1.c 30 _ rfl
  have g31 := h1.c 31 _ rfl
  rw [hn] at g30
  simp only [fnv] at g30
  have hK := hk _ h1 (Keeps.refl _ w).drew
  have hs' : (x.status == 1) = true := beq_iff_eq.2 hs
  have hh' : (x.holder == x.enemy) = false := beq_eq_false_iff_ne.2 hh
  clear hs he hn hk hh
  go_enter Tryz.func146, Tryz.ntmps146
  go_wp2_with fail
  go_region_held3 (fun w' => w'.cell? ⟨ab, 28, none⟩ = some (.int .i64 x.status) ∧ w'.cell? ⟨ab, 27, none⟩ = some (.int .i64 x.holder) ∧ w'.cell? ⟨ab, 31, none⟩ = some (.int .i64 x.enemy)) (go_keep) (fail)
  go_wp2_with fail
  refine hK.mono ?_
  rintro e w2 ⟨rfl, hQ⟩
  go_wp2_with fail
  go_end0
  exact ⟨rfl, hQ⟩
set_option maxHeartbeats 1600000 in
set_option maxRecDepth 1000000 in
theorem seen_other_h_no (h : CL w ab (x.cells c ab)) (he : x.enemy ≠ -1) (hs : x.status = 1) (hh : x.holder ≠ x.enemy) {g : Nat} (hn : x.found = some g) {Q : World → Prop}
    (hk : ∀ W, CL W ab (x.cells c ab) → Keeps (fun _ => False) w W → Calls Tryz.prog 160 #[.pointer (some ⟨ab, 0, none⟩), .func (.func g) #[.pointer (some ⟨ab, 0, none⟩)] #[]] W fun e w' => e = stale4 ∧ Q w') :
    Calls Tryz.prog 146 #[.pointer (some ⟨ab, 0, none⟩)] w fun e w' => e = stale4 ∧ Q w' := by
  have f27 := h.c 27 _ rfl
  have zf27 := h.z 27 (by show 27 < 36; decide)
  have f28 := h.c 28 _ rfl
  have zf28 := h.z 28 (by show 28 < 36; decide)
  have f31 := h.c 31 _ rfl
  have zf31 := h.z 31 (by show 31 < 36; decide)
  have he' : (x.enemy == -1) = false := beq_eq_false_iff_ne.2 he
  have h1 := h.drew
  have g27 := h1.c 27 _ rfl
  have g28 := h1.c 28 _ rfl
  have g30 := h1.c 30 _ rfl
  have g31 := h1.c 31 _ rfl
  rw [hn] at g30
  simp only [fnv] at g30
  have hK := hk _ h1 (Keeps.refl _ w).drew
  have hs' : (x.status == 1) = true := beq_iff_eq.2 hs
  have hh' : (x.holder == x.enemy) = false := beq_eq_false_iff_ne.2 hh
  clear hs he hn hk hh
  go_enter Tryz.func146, Tryz.ntmps146
  go_wp2_with fail
  go_region_held3 (fun w' => w'.cell? ⟨ab, 28, none⟩ = some (.int .i64 x.status) ∧ w'.cell? ⟨ab, 27, none⟩ = some (.int .i64 x.holder) ∧ w'.cell? ⟨ab, 31, none⟩ = some (.int .i64 x.enemy)) (go_keep) (fail)
  go_wp2_with fail
  refine hK.mono ?_
  rintro e w2 ⟨rfl, hQ⟩
  exact ⟨rfl, rfl, hQ⟩
def Tx.sn (x : Tx) (rs : List Rd) (d : Fd) : Out :=
  if x.enemy = -1 then x.fd rs d
  else if x.status = 1 ∧ x.holder = x.enemy then .ok { x with nx := some 132 }
  else if x.flag = true then .ok { x with goOn := some d.no, nx := some 172 }
  else ({ x with enemy := -1 } : Tx).fd rs d
theorem part_any (h : CT w c ab x) (ho : I64 x.object) {p : Nat} (hp : x.place = (p : Int)) (hp2 : p < 1000000000000) (d : Fd) (hf : x.flag = false) :
    Calls Tryz.prog 160 #[.pointer (some ⟨ab, 0, none⟩), .func (.func d.no) #[.pointer (some ⟨ab, 0, none⟩)] #[]] w fun e w' => e = (({ x with enemy := -1 } : Tx).fd c.rs d).en ∧ CL w' ab ((({ x with enemy := -1 } : Tx).fd c.rs d).tx.cells c ab) ∧ Keeps (fun k => k = ab) w w' := by
  have key : ∀ W, CL W ab (({ x with enemy := -1 } : Tx).cells c ab) → Keeps (fun k => k = ab) w W → Calls Tryz.prog d.no #[.pointer (some ⟨ab, 0, none⟩)] W fun e w' => e = (({ x with enemy := -1 } : Tx).fd c.rs d).en ∧ CL w' ab ((({ x with enemy := -1 } : Tx).fd c.rs d).tx.cells c ab) ∧ Keeps (fun k => k = ab) w w' := fun W hW kW =>
    (fd_any (x := { x with enemy := -1 }) (h.self kW hW) ho hp hp2 d).mono (fun e w' ⟨h1, h2, h3⟩ => ⟨h1, h2, kW.trans h3⟩)
  generalize ({ x with enemy := -1 } : Tx).fd c.rs d = o at *
  cases o with
  | ok y => exact part_free_ok h.cl hf (Fd.call d) (Q := fun w' => CL w' ab (y.cells c ab) ∧ Keeps (fun k => k = ab) w w') key
  | no y => exact part_free_no h.cl hf (Fd.call d) (Q := fun w' => CL w' ab (y.cells c ab) ∧ Keeps (fun k => k = ab) w w') key
theorem seen_any (h : CT w c ab x) (ho : I64 x.object) {p : Nat} (hp : x.place = (p : Int)) (hp2 : p < 1000000000000) (d : Fd) (hn : x.found = some d.no) :
    Calls Tryz.prog 146 #[.pointer (some ⟨ab, 0, none⟩)] w fun e w' => e = (x.sn c.rs d).en ∧ CL w' ab ((x.sn c.rs d).tx.cells c ab) ∧ Keeps (fun k => k = ab) w w' := by
  unfold Tx.sn
  split
  · rename_i he
    have key := fd_any h ho hp hp2 d
    generalize x.fd c.rs d = o at *
    cases o with
    | ok y => exact seen_free_ok h.cl he hn (Fd.call d) (Q := fun w' => CL w' ab (y.cells c ab) ∧ Keeps (fun k => k = ab) w w') key
    | no y => exact seen_free_no h.cl he hn (Fd.call d) (Q := fun w' => CL w' ab (y.cells c ab) ∧ Keeps (fun k => k = ab) w w') key
  · rename_i he
    split
    · rename_i hs
      exact seen_same h.cl he hs.1 hs.2
    · rename_i hs
      have key : ∀ W, CL W ab (x.cells c ab) → Keeps (fun _ => False) w W → Calls Tryz.prog 160 #[.pointer (some ⟨ab, 0, none⟩), .func (.func d.no) #[.pointer (some ⟨ab, 0, none⟩)] #[]] W fun e w' => e = (if x.flag = true then Out.ok { x with goOn := some d.no, nx := some 172 } else ({ x with enemy := -1 } : Tx).fd c.rs d).en ∧ CL w' ab ((if x.flag = true then Out.ok { x with goOn := some d.no, nx := some 172 } else ({ x with enemy := -1 } : Tx).fd c.rs d).tx.cells c ab) ∧ Keeps (fun k => k = ab) w w' := fun W hW kW => by
        have k0 : Keeps (fun k => k = ab) w W := kW.mono (fun _ _ e => e.elim)
        split
        · rename_i hf
          exact (part_flag hW hf d.no).mono (fun e w' ⟨h1, h2, h3⟩ => ⟨h1, h2, k0.trans h3⟩)
        · rename_i hf
          exact (part_any (h.new kW) ho hp hp2 d (by simpa using hf)).mono (fun e w' ⟨h1, h2, h3⟩ => ⟨h1, h2, k0.trans h3⟩)
      generalize (if x.flag = true then Out.ok { x with goOn := some d.no, nx := some 172 } else ({ x with enemy := -1 } : Tx).fd c.rs d) = o at *
      by_cases hst : x.status = 1
      · have hh : x.holder ≠ x.enemy := fun e => hs ⟨hst, e⟩
        cases o with
        | ok y => exact seen_other_h_ok h.cl he hst hh hn (Q := fun w' => CL w' ab (y.cells c ab) ∧ Keeps (fun k => k = ab) w w') key
        | no y => exact seen_other_h_no h.cl he hst hh hn (Q := fun w' => CL w' ab (y.cells c ab) ∧ Keeps (fun k => k = ab) w w') key
      · cases o with
        | ok y => exact seen_other_s_ok h.cl he hst hn (Q := fun w' => CL w' ab (y.cells c ab) ∧ Keeps (fun k => k = ab) w w') key
        | no y => exact seen_other_s_no h.cl he hst hn (Q := fun w' => CL w' ab (y.cells c ab) ∧ Keeps (fun k => k = ab) w w') key
end
end Go.Proofs.YtgjndhbfjofkeaaGreatDoor

