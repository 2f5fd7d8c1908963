import Derived.Test.YtgjndhbfjofkeaaGreatDoorG15
namespace Go.Proofs.YtgjndhbfjofkeaaGreatDoor
open Go.RowKit
attribute [local go_sem] Oper.semAt_some run_store_nf run_store_f
section
variable {w w' : World} {ρ ρ' ρ'' : Nat → Nat} {u j : Nat} {c : Sc} {ab rb n n' : Nat} {x x' : Tx} {f f' : Int → Option Nat} {s s' : Ws} {m m' : Mm} {r r' : Ro}
set_option maxHeartbeats 400000 in
set_option maxRecDepth 1000000 in
theorem endAs_lost (hA : AX w ρ u j c ab x n f s m) (hR : RX w ρ c ab rb r) (en : Int) :
    Calls Tryz.prog 120 #[.pointer (some ⟨ab, 0, none⟩), .pointer (some ⟨rb, 0, none⟩), .bool false, .int .i64 en] w fun e w' => e = .returned (.tuple #[]) ∧ AX w' ρ u j c ab x.over n f s m ∧ RX w' ρ c ab rb { r with fin := 5 } ∧ Fr (OwnR c ab rb) u j w w' ρ ρ := by
  have hE := end_any hA hR 5
  go_enter Tryz.func120, Tryz.ntmps120
  go_wp2_with fail
  refine hE.mono ?_
  rintro e W1 ⟨rfl, hA1, hR1, fr1⟩
  go_wp2_with fail
  go_end0
  exact ⟨rfl, hA1, hR1, fr1⟩
set_option maxHeartbeats 400000 in
set_option maxRecDepth 1000000 in
theorem commit_lost (hI : Inv s m) (hno1 : 1 ≤ x.no) (hno : x.no < s.atts.length) (hfr : m.free = true) (hlog : (m.log.length + 1) * 56 ≤ 140737488355328) {sv : Int} (h1 : (ca m.cells (s.att x.no).status).2 = sv) (hsv : sv ≠ 1) :
    Goes 93 u j c ab ρ x x.over n n f f s s m (m.swap (s.att x.no).status 1 2) { (({ x.blank with kind := 15 } : Ro).acc (m.swap (s.att x.no).status 1 2).took) with fin := 5 } := by
  intro W rb hA hR
  have hq := hR.cl
  have r5 := hq.c 5 _ rfl
  have zr5 := hq.z 5 (by show 5 < 26; decide)
  have hR1 : RX (W.setCell ⟨rb, 5, none⟩ (.int .i64 15)) ρ c ab rb { x.blank with kind := 15 } := hR.set1 (o := 5) (by decide) _ rfl
  have hA1 := hA.setR hR 5 (.int .i64 15)
  have fr1 := (Fr.refl (OwnR c ab rb) u j W ρ).setR 5 (.int .i64 15)
  clear hq
  go_enter Tryz.func93, Tryz.ntmps93
  go_wp2_with fail
  clear r5 zr5
  generalize W.setCell ⟨rb, 5, none⟩ (.int .i64 15) = W1 at *
  replace hA1 := hA1.new (Keeps.refl _ W1).drew
  replace hR1 := hR1.new (Keeps.refl _ W1).drew
  replace fr1 := fr1.kN (Keeps.refl _ W1).drew
  have hS := Commit_ok hA1.st hI.wf hno1 hno hfr hlog
  rw [show decide ((ca m.cells (s.att x.no).status).2 = 1) = false from decide_eq_false (by rw [h1]; exact hsv)] at hS
  have hc := hA1.cl
  have f1 := hc.c 1 _ rfl
  have f7 := hc.c 7 _ rfl
  clear hc h1 hsv
  go_region_held3 (fun w' => w'.cell? ⟨ab, 1, none⟩ = some (.pointer (some ⟨c.wb, 0, none⟩)) ∧ w'.cell? ⟨ab, 7, none⟩ = some (.int .i64 (x.no : Int))) (go_keep) (first | (go_at_call 118; refine hS.mono ?_; clear hS; rintro e W3 ⟨rfl, ρ3, s3, x3⟩; have hA3 := hA1.run s3 x3; have hR3 := hR1.run (Sr.not0 hA1.st) x3; have fr3 := fr1.ex x3; have hc3 := hA3.cl; have g1 := hc3.c 1 _ rfl; have g7 := hc3.c 7 _ rfl) | (go_at_call 117; refine (must_bool _ _).mono ?_; rintro e W4 ⟨rfl, rfl⟩))
  clear g1 g7 hc3 hA1 hR1 fr1 s3 x3 f1 f7
  have hT := atook hA3 hR3 (had_swap m _ _ _) (by rw [log_swap]; omega)
  go_wp2_with fail
  refine hT.mono ?_
  rintro e W8 ⟨rfl, hA8, hR8, k8⟩
  have fr8 := fr3.kR k8
  have hE := endAs_lost hA8 hR8 1
  clear hT
  go_wp2_with fail
  refine hE.mono ?_
  rintro e W9 ⟨rfl, hA9, hR9, fr9⟩
  clear hE
  go_wp2_with fail
  go_end0
  exact ⟨rfl, ρ3, hA9, hR9, fr8.tr fr9⟩
end
end Go.Proofs.YtgjndhbfjofkeaaGreatDoor

namespace Go.Proofs.YtgjndhbfjofkeaaGreatDoor
open Go.RowKit
attribute [local go_sem] Oper.semAt_some run_store_nf run_store_f
theorem wpAnyH_oneW {P : Program} {ops : Array Oper} {Q : Exit → Act → World → Prop} {md : Region.Mode} {S : World → Prop} {fuel : Nat} {listed : Array Bool} {a : Act} {w : World} {o : Oper} (i : Nat) (hr : Region.ready md ops listed = [i]) (hoi : ops[i]? = some o) (hw : Region.wanted o (yielded ops a.tmps) = true)
    (h : Oper.wp P o a w (fun a' w' => S w' ∧ (S w' → wpAnyH P md ops Q S fuel (listed.setIfInBounds i true) a' w')) Q) : wpAnyH P md ops Q S (fuel + 1) listed a w := by
  refine wpAnyH_ready hr (by simp) (AllReadyH.cons hoi (fun K hK => ?_) AllReadyH.nil)
  rw [if_pos hw]
  exact Oper.wp_mono (fun a' w' e => hK.out _ _ e.1 e.2) h
theorem wpAnyH_two {P : Program} {ops : Array Oper} {Q : Exit → Act → World → Prop} {md : Region.Mode} {S : World → Prop} {fuel : Nat} {listed : Array Bool} {a : Act} {w : World} {o o2 : Oper} (i i2 : Nat) (hr : Region.ready md ops listed = [i, i2]) (hoi : ops[i]? = some o) (hoi2 : ops[i2]? = some o2) (hw : Region.wanted o (yielded ops a.tmps) = true) (hw2 : Region.wanted o2 (yielded ops a.tmps) = true)
    (h : Oper.wp P o a w (fun a' w' => S w' ∧ (S w' → wpAnyH P md ops Q S fuel (listed.setIfInBounds i true) a' w')) Q) (h2 : Oper.wp P o2 a w (fun a' w' => S w' ∧ (S w' → wpAnyH P md ops Q S fuel (listed.setIfInBounds i2 true) a' w')) Q) : wpAnyH P md ops Q S (fuel + 1) listed a w := by
  refine wpAnyH_ready hr (by simp) (AllReadyH.cons hoi (fun K hK => ?_) (AllReadyH.cons hoi2 (fun K hK => ?_) AllReadyH.nil))
  · rw [if_pos hw]
    exact Oper.wp_mono (fun a' w' e => hK.out _ _ e.1 e.2) h
  · rw [if_pos hw2]
    exact Oper.wp_mono (fun a' w' e => hK.out _ _ e.1 e.2) h2
section
variable {w w' : World} {ρ ρ' ρ'' : Nat → Nat} {u j : Nat} {c : Sc} {ab rb n n' : Nat} {x x' : Tx} {f f' : Int → Option Nat} {s s' : Ws} {m m' : Mm} {r r' : Ro}
set_option maxHeartbeats 300000 in
set_option maxRecDepth 1000000 in
theorem quit_won (hI : Inv s m) (hno1 : 1 ≤ x.no) (hno : x.no < s.atts.length) (hfr : m.free = true) (hlog : (m.log.length + 1) * 56 ≤ 140737488355328) (h1 : (ca m.cells (s.att x.no).status).2 = 1) :
    Goes 114 u j c ab ρ x x.over n n f f s s m (m.swap (s.att x.no).status 1 3) { (({ x.blank with kind := 16 } : Ro).acc (m.swap (s.att x.no).status 1 3).took) with fin := x.why } := by
  intro W rb hA hR
  have hq := hR.cl
  have r5 := hq.c 5 _ rfl
  have zr5 := hq.z 5 (by show 5 < 26; decide)
  have hR1 : RX (W.setCell ⟨rb, 5, none⟩ (.int .i64 16)) ρ c ab rb { x.blank with kind := 16 } := hR.set1 (o := 5) (by decide) _ rfl
  have hA1 := hA.setR hR 5 (.int .i64 16)
  have fr1 := (Fr.refl (OwnR c ab rb) u j W ρ).setR 5 (.int .i64 16)
  clear hq
  go_enter Tryz.func114, Tryz.ntmps114
  go_wp2_with fail
  clear r5 zr5
  generalize W.setCell ⟨rb, 5, none⟩ (.int .i64 16) = W1 at *
  replace hA1 := hA1.new (Keeps.refl _ W1).drew
  replace hR1 := hR1.new (Keeps.refl _ W1).drew
  replace fr1 := fr1.kN (Keeps.refl _ W1).drew
  have hS := Kill_ok hA1.st hI.wf hno1 hno hfr hlog
  rw [show decide ((ca m.cells (s.att x.no).status).2 = 1) = true from decide_eq_true h1] at hS
  have hc := hA1.cl
  have f1 := hc.c 1 _ rfl
  have f7 := hc.c 7 _ rfl
  clear hc h1
  go_region_held3 (fun w' => w'.cell? ⟨ab, 1, none⟩ = some (.pointer (some ⟨c.wb, 0, none⟩)) ∧ w'.cell? ⟨ab, 7, none⟩ = some (.int .i64 (x.no : Int))) (go_keep) (first | (go_at_call 139; refine hS.mono ?_; clear hS; rintro e W3 ⟨rfl, ρ3, s3, x3⟩; have hA3 := hA1.run s3 x3; have hR3 := hR1.run (Sr.not0 hA1.st) x3; have fr3 := fr1.ex x3; have hc3 := hA3.cl; have g1 := hc3.c 1 _ rfl; have g7 := hc3.c 7 _ rfl) | (go_at_call 117; refine (must_bool _ _).mono ?_; rintro e W4 ⟨rfl, rfl⟩))
  clear g1 g7 hc3 hA1 hR1 fr1 s3 x3 f1 f7
  have hT := atook hA3 hR3 (had_swap m _ _ _) (by rw [log_swap]; omega)
  go_wp2_with fail
  refine hT.mono ?_
  rintro e W8 ⟨rfl, hA8, hR8, k8⟩
  have fr8 := fr3.kR k8
  have hD := hA8.new (Keeps.refl _ W8).drew
  have hE := endAs_won hD (hR8.new (Keeps.refl _ W8).drew) x.why
  have hc := hD.cl
  have f21 := hc.c 21 _ rfl
  clear hT hc
  go_wp2_with fail
  refine wp_region_held_drew (S := fun _ => True) (by kernel_rfl) trivial (fun hHeld => ?_)
  refine wpAnyH_take (i := 0) (v := ?_) rfl (by kernel_rfl) (by kernel_rfl) (by kernel_rfl) (fun _ _ _ h => h) (Or.inl ⟨by rfl, ?_⟩) (by assumption) ?_
  rotate_left
  · intro wx hSw; (try dsimp only at hSw); go_simp <;> with_reducible rfl
  (try simp only [List.getElem_toArray]); (try simp only [List.getElem_cons_succ]); (try simp only [List.getElem_cons_zero]); (try simp only [Act.put]); (try simp only [List.setIfInBounds_toArray]); (repeat first | simp only [List.set_cons_succ] | simp only [List.set_cons_zero])
  refine wpAnyH_take (i := 1) (v := ?_) rfl (by kernel_rfl) (by kernel_rfl) (by kernel_rfl) (fun _ _ _ h => h) (Or.inl ⟨by rfl, ?_⟩) (by assumption) ?_
  rotate_left
  · intro wx hSw; (try dsimp only at hSw); go_simp <;> with_reducible rfl
  (try simp only [List.getElem_toArray]); (try simp only [List.getElem_cons_succ]); (try simp only [List.getElem_cons_zero]); (try simp only [Act.put]); (try simp only [List.setIfInBounds_toArray]); (repeat first | simp only [List.set_cons_succ] | simp only [List.set_cons_zero])
  refine wpAnyH_take (i := 2) (v := ?_) rfl (by kernel_rfl) (by kernel_rfl) (by kernel_rfl) (fun _ _ _ h => h) (Or.inl ⟨by rfl, ?_⟩) (by assumption) ?_
  rotate_left
  · intro wx hSw; (try dsimp only at hSw); go_simp <;> with_reducible rfl
  (try simp only [List.getElem_toArray]); (try simp only [List.getElem_cons_succ]); (try simp only [List.getElem_cons_zero]); (try simp only [Act.put]); (try simp only [List.setIfInBounds_toArray]); (repeat first | simp only [List.set_cons_succ] | simp only [List.set_cons_zero])
  refine wpAnyH_take (i := 3) (v := ?_) rfl (by kernel_rfl) (by kernel_rfl) (by kernel_rfl) (fun _ _ _ h => h) (Or.inl ⟨by rfl, ?_⟩) (by assumption) ?_
  rotate_left
  · intro wx hSw; (try dsimp only at hSw); go_simp <;> with_reducible rfl
  (try simp only [List.getElem_toArray]); (try simp only [List.getElem_cons_succ]); (try simp only [List.getElem_cons_zero]); (try simp only [Act.put]); (try simp only [List.setIfInBounds_toArray]); (repeat first | simp only [List.set_cons_succ] | simp only [List.set_cons_zero])
  refine wpAnyH_take (i := 4) (v := undef) rfl (by kernel_rfl) (by kernel_rfl) (by kernel_rfl) (fun _ _ _ h => h) (Or.inr ⟨by rfl, rfl⟩) (by assumption) ?_
  (try simp only [List.getElem_toArray]); (try simp only [List.getElem_cons_succ]); (try simp only [List.getElem_cons_zero]); (try simp only [Act.put]); (try simp only [List.setIfInBounds_toArray]); (repeat first | simp only [List.set_cons_succ] | simp only [List.set_cons_zero])
  refine wpAnyH_take (i := 5) (v := undef) rfl (by kernel_rfl) (by kernel_rfl) (by kernel_rfl) (fun _ _ _ h => h) (Or.inr ⟨by rfl, rfl⟩) (by assumption) ?_
  (try simp only [List.getElem_toArray]); (try simp only [List.getElem_cons_succ]); (try simp only [List.getElem_cons_zero]); (try simp only [Act.put]); (try simp only [List.setIfInBounds_toArray]); (repeat first | simp only [List.set_cons_succ] | simp only [List.set_cons_zero])
  refine wpAnyH_take (i := 6) (v := undef) rfl (by kernel_rfl) (by kernel_rfl) (by kernel_rfl) (fun _ _ _ h => h) (Or.inr ⟨by rfl, rfl⟩) (by assumption) ?_
  (try simp only [List.getElem_toArray]); (try simp only [List.getElem_cons_succ]); (try simp only [List.getElem_cons_zero]); (try simp only [Act.put]); (try simp only [List.setIfInBounds_toArray]); (repeat first | simp only [List.set_cons_succ] | simp only [List.set_cons_zero])
  refine wpAnyH_take (i := 7) (v := undef) rfl (by kernel_rfl) (by kernel_rfl) (by kernel_rfl) (fun _ _ _ h => h) (Or.inr ⟨by rfl, rfl⟩) (by assumption) ?_
  (try simp only [List.getElem_toArray]); (try simp only [List.getElem_cons_succ]); (try simp only [List.getElem_cons_zero]); (try simp only [Act.put]); (try simp only [List.setIfInBounds_toArray]); (repeat first | simp only [List.set_cons_succ] | simp only [List.set_cons_zero])
  refine wpAnyH_take (i := 8) (v := undef) rfl (by kernel_rfl) (by kernel_rfl) (by kernel_rfl) (fun _ _ _ h => h) (Or.inr ⟨by rfl, rfl⟩) (by assumption) ?_
  (try simp only [List.getElem_toArray]); (try simp only [List.getElem_cons_succ]); (try simp only [List.getElem_cons_zero]); (try simp only [Act.put]); (try simp only [List.setIfInBounds_toArray]); (repeat first | simp only [List.set_cons_succ] | simp only [List.set_cons_zero])
  refine wpAnyH_take (i := 9) (v := undef) rfl (by kernel_rfl) (by kernel_rfl) (by kernel_rfl) (fun _ _ _ h => h) (Or.inr ⟨by rfl, rfl⟩) (by assumption) ?_
  (try simp only [List.getElem_toArray]); (try simp only [List.getElem_cons_succ]); (try simp only [List.getElem_cons_zero]); (try simp only [Act.put]); (try simp only [List.setIfInBounds_toArray]); (repeat first | simp only [List.set_cons_succ] | simp only [List.set_cons_zero])
  refine wpAnyH_take (i := 10) (v := ?_) rfl (by kernel_rfl) (by kernel_rfl) (by kernel_rfl) (fun _ _ _ h => h) (Or.inl ⟨by rfl, ?_⟩) (by assumption) ?_
  rotate_left
  · intro wx hSw; (try dsimp only at hSw); go_simp <;> with_reducible rfl
  (try simp only [List.getElem_toArray]); (try simp only [List.getElem_cons_succ]); (try simp only [List.getElem_cons_zero]); (try simp only [Act.put]); (try simp only [List.setIfInBounds_toArray]); (repeat first | simp only [List.set_cons_succ] | simp only [List.set_cons_zero])
  refine wpAnyH_take (i := 11) (v := ?_) rfl (by kernel_rfl) (by kernel_rfl) (by kernel_rfl) (fun _ _ _ h => h) (Or.inl ⟨by rfl, ?_⟩) (by assumption) ?_
  rotate_left
  · intro wx hSw; (try dsimp only at hSw); go_simp <;> with_reducible rfl
  (try simp only [List.getElem_toArray]); (try simp only [List.getElem_cons_succ]); (try simp only [List.getElem_cons_zero]); (try simp only [Act.put]); (try simp only [List.setIfInBounds_toArray]); (repeat first | simp only [List.set_cons_succ] | simp only [List.set_cons_zero])
  refine wpAnyH_take (i := 12) (v := ?_) rfl (by kernel_rfl) (by kernel_rfl) (by kernel_rfl) (fun _ _ _ h => h) (Or.inl ⟨by rfl, ?_⟩) (by assumption) ?_
  rotate_left
  · intro wx hSw; (try dsimp only at hSw); go_simp <;> with_reducible rfl
  (try simp only [List.getElem_toArray]); (try simp only [List.getElem_cons_succ]); (try simp only [List.getElem_cons_zero]); (try simp only [Act.put]); (try simp only [List.setIfInBounds_toArray]); (repeat first | simp only [List.set_cons_succ] | simp only [List.set_cons_zero])
  refine wpAnyH_take (i := 13) (v := ?_) rfl (by kernel_rfl) (by kernel_rfl) (by kernel_rfl) (fun _ _ _ h => h) (Or.inl ⟨by rfl, ?_⟩) (by assumption) ?_
  rotate_left
  · intro wx hSw; (try dsimp only at hSw); go_simp <;> with_reducible rfl
  (try simp only [List.getElem_toArray]); (try simp only [List.getElem_cons_succ]); (try simp only [List.getElem_cons_zero]); (try simp only [Act.put]); (try simp only [List.setIfInBounds_toArray]); (repeat first | simp only [List.set_cons_succ] | simp only [List.set_cons_zero])
  refine wpAnyH_take (i := 14) (v := ?_) rfl (by kernel_rfl) (by kernel_rfl) (by kernel_rfl) (fun _ _ _ h => h) (Or.inl ⟨by rfl, ?_⟩) (by assumption) ?_
  rotate_left
  · intro wx hSw; (try dsimp only at hSw); go_simp <;> with_reducible rfl
  (try simp only [List.getElem_toArray]); (try simp only [List.getElem_cons_succ]); (try simp only [List.getElem_cons_zero]); (try simp only [Act.put]); (try simp only [List.setIfInBounds_toArray]); (repeat first | simp only [List.set_cons_succ] | simp only [List.set_cons_zero])
  refine wpAnyH_one 15 (by kernel_rfl) rfl rfl ?_
  go_simp
  refine wpAnyH_one 16 (by kernel_rfl) rfl rfl ?_
  go_simp
  refine hE.mono ?_
  rintro e W9 ⟨rfl, hA9, hR9, fr9⟩
  refine wpAnyH_done (by kernel_rfl) ?_ _
  go_end0
  exact ⟨rfl, ρ3, hA9, hR9, (fr8.kN (Keeps.refl _ W8).drew).tr fr9⟩
set_option maxHeartbeats 300000 in
set_option maxRecDepth 1000000 in
theorem quit_stale (hI : Inv s m) (hno1 : 1 ≤ x.no) (hno : x.no < s.atts.length) (hfr : m.free = true) (hlog : (m.log.length + 1) * 56 ≤ 140737488355328) (hwh : x.why = 4) {sv : Int} (h1 : (ca m.cells (s.att x.no).status).2 = sv) (hsv : sv ≠ 1) :
    Goes 114 u j c ab ρ x x.over n n f f s s m (m.swap (s.att x.no).status 1 3) { (({ x.blank with kind := 16 } : Ro).acc (m.swap (s.att x.no).status 1 3).took) with fin := 4 } := by
  intro W rb hA hR
  have HW : Hid (x.why = 4) := hwh
  clear hwh
  have hq := hR.cl
  have r5 := hq.c 5 _ rfl
  have zr5 := hq.z 5 (by show 5 < 26; decide)
  have hR1 : RX (W.setCell ⟨rb, 5, none⟩ (.int .i64 16)) ρ c ab rb { x.blank with kind := 16 } := hR.set1 (o := 5) (by decide) _ rfl
  have hA1 := hA.setR hR 5 (.int .i64 16)
  have fr1 := (Fr.refl (OwnR c ab rb) u j W ρ).setR 5 (.int .i64 16)
  clear hq
  go_enter Tryz.func114, Tryz.ntmps114
  go_wp2_with fail
  clear r5 zr5
  generalize W.setCell ⟨rb, 5, none⟩ (.int .i64 16) = W1 at *
  replace hA1 := hA1.new (Keeps.refl _ W1).drew
  replace hR1 := hR1.new (Keeps.refl _ W1).drew
  replace fr1 := fr1.kN (Keeps.refl _ W1).drew
  have hS := Kill_ok hA1.st hI.wf hno1 hno hfr hlog
  rw [show decide ((ca m.cells (s.att x.no).status).2 = 1) = false from decide_eq_false (by rw [h1]; exact hsv)] at hS
  have hc := hA1.cl
  have f1 := hc.c 1 _ rfl
  have f7 := hc.c 7 _ rfl
  clear hc h1 hsv
  go_region_held3 (fun w' => w'.cell? ⟨ab, 1, none⟩ = some (.pointer (some ⟨c.wb, 0, none⟩)) ∧ w'.cell? ⟨ab, 7, none⟩ = some (.int .i64 (x.no : Int))) (go_keep) (first | (go_at_call 139; refine hS.mono ?_; clear hS; rintro e W3 ⟨rfl, ρ3, s3, x3⟩; have hA3 := hA1.run s3 x3; have hR3 := hR1.run (Sr.not0 hA1.st) x3; have fr3 := fr1.ex x3; have hc3 := hA3.cl; have g1 := hc3.c 1 _ rfl; have g7 := hc3.c 7 _ rfl) | (go_at_call 117; refine (must_bool _ _).mono ?_; rintro e W4 ⟨rfl, rfl⟩))
  clear g1 g7 hc3 hA1 hR1 fr1 s3 x3 f1 f7
  have hT := atook hA3 hR3 (had_swap m _ _ _) (by rw [log_swap]; omega)
  go_wp2_with fail
  refine hT.mono ?_
  rintro e W8 ⟨rfl, hA8, hR8, k8⟩
  have fr8 := fr3.kR k8
  have hD := hA8.new (Keeps.refl _ W8).drew
  have hE := endAs_won hD (hR8.new (Keeps.refl _ W8).drew) 4
  have hc := hD.cl
  have f21 := hc.c 21 _ rfl
  rw [HW.out] at f21
  clear hT hc
  go_wp2_with fail
  refine wp_region_held_drew (S := fun _ => True) (by kernel_rfl) trivial (fun hHeld => ?_)
  refine wpAnyH_take (i := 0) (v := ?_) rfl (by kernel_rfl) (by kernel_rfl) (by kernel_rfl) (fun _ _ _ h => h) (Or.inl ⟨by rfl, ?_⟩) (by assumption) ?_
  rotate_left
  · intro wx hSw; (try dsimp only at hSw); go_simp <;> with_reducible rfl
  (try simp only [List.getElem_toArray]); (try simp only [List.getElem_cons_succ]); (try simp only [List.getElem_cons_zero]); (try simp only [Act.put]); (try simp only [List.setIfInBounds_toArray]); (repeat first | simp only [List.set_cons_succ] | simp only [List.set_cons_zero])
  refine wpAnyH_take (i := 1) (v := ?_) rfl (by kernel_rfl) (by kernel_rfl) (by kernel_rfl) (fun _ _ _ h => h) (Or.inl ⟨by rfl, ?_⟩) (by assumption) ?_
  rotate_left
  · intro wx hSw; (try dsimp only at hSw); go_simp <;> with_reducible rfl
  (try simp only [List.getElem_toArray]); (try simp only [List.getElem_cons_succ]); (try simp only [List.getElem_cons_zero]); (try simp only [Act.put]); (try simp only [List.setIfInBounds_toArray]); (repeat first | simp only [List.set_cons_succ] | simp only [List.set_cons_zero])
  refine wpAnyH_take (i := 2) (v := ?_) rfl (by kernel_rfl) (by kernel_rfl) (by kernel_rfl) (fun _ _ _ h => h) (Or.inl ⟨by rfl, ?_⟩) (by assumption) ?_
  rotate_left
  · intro wx hSw; (try dsimp only at hSw); go_simp <;> with_reducible rfl
  (try simp only [List.getElem_toArray]); (try simp only [List.getElem_cons_succ]); (try simp only [List.getElem_cons_zero]); (try simp only [Act.put]); (try simp only [List.setIfInBounds_toArray]); (repeat first | simp only [List.set_cons_succ] | simp only [List.set_cons_zero])
  refine wpAnyH_take (i := 3) (v := ?_) rfl (by kernel_rfl) (by kernel_rfl) (by kernel_rfl) (fun _ _ _ h => h) (Or.inl ⟨by rfl, ?_⟩) (by assumption) ?_
  rotate_left
  · intro wx hSw; (try dsimp only at hSw); go_simp <;> with_reducible rfl
  (try simp only [List.getElem_toArray]); (try simp only [List.getElem_cons_succ]); (try simp only [List.getElem_cons_zero]); (try simp only [Act.put]); (try simp only [List.setIfInBounds_toArray]); (repeat first | simp only [List.set_cons_succ] | simp only [List.set_cons_zero])
  refine wpAnyH_take (i := 4) (v := ?_) rfl (by kernel_rfl) (by kernel_rfl) (by kernel_rfl) (fun _ _ _ h => h) (Or.inl ⟨by rfl, ?_⟩) (by assumption) ?_
  rotate_left
  · intro wx hSw; (try dsimp only at hSw); go_simp <;> with_reducible rfl
  (try simp only [List.getElem_toArray]); (try simp only [List.getElem_cons_succ]); (try simp only [List.getElem_cons_zero]); (try simp only [Act.put]); (try simp only [List.setIfInBounds_toArray]); (repeat first | simp only [List.set_cons_succ] | simp only [List.set_cons_zero])
  refine wpAnyH_take (i := 5) (v := ?_) rfl (by kernel_rfl) (by kernel_rfl) (by kernel_rfl) (fun _ _ _ h => h) (Or.inl ⟨by rfl, ?_⟩) (by assumption) ?_
  rotate_left
  · intro wx hSw; (try dsimp only at hSw); go_simp <;> with_reducible rfl
  (try simp only [List.getElem_toArray]); (try simp only [List.getElem_cons_succ]); (try simp only [List.getElem_cons_zero]); (try simp only [Act.put]); (try simp only [List.setIfInBounds_toArray]); (repeat first | simp only [List.set_cons_succ] | simp only [List.set_cons_zero])
  refine wpAnyH_take (i := 6) (v := ?_) rfl (by kernel_rfl) (by kernel_rfl) (by kernel_rfl) (fun _ _ _ h => h) (Or.inl ⟨by rfl, ?_⟩) (by assumption) ?_
  rotate_left
  · intro wx hSw; (try dsimp only at hSw); go_simp <;> with_reducible rfl
  (try simp only [List.getElem_toArray]); (try simp only [List.getElem_cons_succ]); (try simp only [List.getElem_cons_zero]); (try simp only [Act.put]); (try simp only [List.setIfInBounds_toArray]); (repeat first | simp only [List.set_cons_succ] | simp only [List.set_cons_zero])
  refine wpAnyH_take (i := 7) (v := ?_) rfl (by kernel_rfl) (by kernel_rfl) (by kernel_rfl) (fun _ _ _ h => h) (Or.inl ⟨by rfl, ?_⟩) (by assumption) ?_
  rotate_left
  · intro wx hSw; (try dsimp only at hSw); go_simp <;> with_reducible rfl
  (try simp only [List.getElem_toArray]); (try simp only [List.getElem_cons_succ]); (try simp only [List.getElem_cons_zero]); (try simp only [Act.put]); (try simp only [List.setIfInBounds_toArray]); (repeat first | simp only [List.set_cons_succ] | simp only [List.set_cons_zero])
  refine wpAnyH_take (i := 11) (v := ?_) rfl (by kernel_rfl) (by kernel_rfl) (by kernel_rfl) (fun _ _ _ h => h) (Or.inl ⟨by rfl, ?_⟩) (by assumption) ?_
  rotate_left
  · intro wx hSw; (try dsimp only at hSw); go_simp <;> with_reducible rfl
  (try simp only [List.getElem_toArray]); (try simp only [List.getElem_cons_succ]); (try simp only [List.getElem_cons_zero]); (try simp only [Act.put]); (try simp only [List.setIfInBounds_toArray]); (repeat first | simp only [List.set_cons_succ] | simp only [List.set_cons_zero])
  refine wpAnyH_take (i := 12) (v := ?_) rfl (by kernel_rfl) (by kernel_rfl) (by kernel_rfl) (fun _ _ _ h => h) (Or.inl ⟨by rfl, ?_⟩) (by assumption) ?_
  rotate_left
  · intro wx hSw; (try dsimp only at hSw); go_simp <;> with_reducible rfl
  (try simp only [List.getElem_toArray]); (try simp only [List.getElem_cons_succ]); (try simp only [List.getElem_cons_zero]); (try simp only [Act.put]); (try simp only [List.setIfInBounds_toArray]); (repeat first | simp only [List.set_cons_succ] | simp only [List.set_cons_zero])
  refine wpAnyH_take (i := 13) (v := ?_) rfl (by kernel_rfl) (by kernel_rfl) (by kernel_rfl) (fun _ _ _ h => h) (Or.inl ⟨by rfl, ?_⟩) (by assumption) ?_
  rotate_left
  · intro wx hSw; (try dsimp only at hSw); go_simp <;> with_reducible rfl
  (try simp only [List.getElem_toArray]); (try simp only [List.getElem_cons_succ]); (try simp only [List.getElem_cons_zero]); (try simp only [Act.put]); (try simp only [List.setIfInBounds_toArray]); (repeat first | simp only [List.set_cons_succ] | simp only [List.set_cons_zero])
  refine wpAnyH_take (i := 14) (v := ?_) rfl (by kernel_rfl) (by kernel_rfl) (by kernel_rfl) (fun _ _ _ h => h) (Or.inl ⟨by rfl, ?_⟩) (by assumption) ?_
  rotate_left
  · intro wx hSw; (try dsimp only at hSw); go_simp <;> with_reducible rfl
  (try simp only [List.getElem_toArray]); (try simp only [List.getElem_cons_succ]); (try simp only [List.getElem_cons_zero]); (try simp only [Act.put]); (try simp only [List.setIfInBounds_toArray]); (repeat first | simp only [List.set_cons_succ] | simp only [List.set_cons_zero])
  refine wpAnyH_two 8 15 (by kernel_rfl) rfl rfl (by rfl) (by rfl) ?_ ?_
  · go_simp
    refine wpAnyH_take (i := 9) (v := ?_) rfl (by kernel_rfl) (by kernel_rfl) (by kernel_rfl) (fun _ _ _ h => h) (Or.inl ⟨by rfl, ?_⟩) (by assumption) ?_
    rotate_left
    · intro wx hSw; (try dsimp only at hSw); go_simp <;> with_reducible rfl
    (try simp only [List.getElem_toArray]); (try simp only [List.getElem_cons_succ]); (try simp only [List.getElem_cons_zero]); (try simp only [Act.put]); (try simp only [List.setIfInBounds_toArray]); (repeat first | simp only [List.set_cons_succ] | simp only [List.set_cons_zero])
    refine wpAnyH_take (i := 10) (v := ?_) rfl (by kernel_rfl) (by kernel_rfl) (by kernel_rfl) (fun _ _ _ h => h) (Or.inl ⟨by rfl, ?_⟩) (by assumption) ?_
    rotate_left
    · intro wx hSw; (try dsimp only at hSw); go_simp <;> with_reducible rfl
    (try simp only [List.getElem_toArray]); (try simp only [List.getElem_cons_succ]); (try simp only [List.getElem_cons_zero]); (try simp only [Act.put]); (try simp only [List.setIfInBounds_toArray]); (repeat first | simp only [List.set_cons_succ] | simp only [List.set_cons_zero])
    refine wpAnyH_one 15 (by kernel_rfl) rfl rfl ?_
    go_simp
    refine wpAnyH_one 16 (by kernel_rfl) rfl rfl ?_
    go_simp
    refine hE.mono ?_
    rintro e W9 ⟨rfl, hA9, hR9, fr9⟩
    refine wpAnyH_done (by kernel_rfl) ?_ _
    go_end0
    exact ⟨rfl, ρ3, hA9, hR9, (fr8.kN (Keeps.refl _ W8).drew).tr fr9⟩
  · go_simp
    refine wpAnyH_oneW 8 (by kernel_rfl) rfl (by rfl) ?_
    go_simp
    refine wpAnyH_take (i := 9) (v := ?_) rfl (by kernel_rfl) (by kernel_rfl) (by kernel_rfl) (fun _ _ _ h => h) (Or.inl ⟨by rfl, ?_⟩) (by assumption) ?_
    rotate_left
    · intro wx hSw; (try dsimp only at hSw); go_simp <;> with_reducible rfl
    (try simp only [List.getElem_toArray]); (try simp only [List.getElem_cons_succ]); (try simp only [List.getElem_cons_zero]); (try simp only [Act.put]); (try simp only [List.setIfInBounds_toArray]); (repeat first | simp only [List.set_cons_succ] | simp only [List.set_cons_zero])
    refine wpAnyH_take (i := 10) (v := ?_) rfl (by kernel_rfl) (by kernel_rfl) (by kernel_rfl) (fun _ _ _ h => h) (Or.inl ⟨by rfl, ?_⟩) (by assumption) ?_
    rotate_left
    · intro wx hSw; (try dsimp only at hSw); go_simp <;> with_reducible rfl
    (try simp only [List.getElem_toArray]); (try simp only [List.getElem_cons_succ]); (try simp only [List.getElem_cons_zero]); (try simp only [Act.put]); (try simp only [List.setIfInBounds_toArray]); (repeat first | simp only [List.set_cons_succ] | simp only [List.set_cons_zero])
    refine wpAnyH_one 16 (by kernel_rfl) rfl rfl ?_
    go_simp
    refine hE.mono ?_
    rintro e W9 ⟨rfl, hA9, hR9, fr9⟩
    refine wpAnyH_done (by kernel_rfl) ?_ _
    go_end0
    exact ⟨rfl, ρ3, hA9, hR9, (fr8.kN (Keeps.refl _ W8).drew).tr fr9⟩
set_option maxHeartbeats 300000 in
set_option maxRecDepth 1000000 in
theorem quit_lost (hI : Inv s m) (hno1 : 1 ≤ x.no) (hno : x.no < s.atts.length) (hfr : m.free = true) (hlog : (m.log.length + 1) * 56 ≤ 140737488355328) (hwh : (x.why == 4) = false) {sv : Int} (h1 : (ca m.cells (s.att x.no).status).2 = sv) (hsv : sv ≠ 1) :
    Goes 114 u j c ab ρ x x.over n n f f s s m (m.swap (s.att x.no).status 1 3) { (({ x.blank with kind := 16 } : Ro).acc (m.swap (s.att x.no).status 1 3).took) with fin := 5 } := by
  intro W rb hA hR
  have hq := hR.cl
  have r5 := hq.c 5 _ rfl
  have zr5 := hq.z 5 (by show 5 < 26; decide)
  have hR1 : RX (W.setCell ⟨rb, 5, none⟩ (.int .i64 16)) ρ c ab rb { x.blank with kind := 16 } := hR.set1 (o := 5) (by decide) _ rfl
  have hA1 := hA.setR hR 5 (.int .i64 16)
  have fr1 := (Fr.refl (OwnR c ab rb) u j W ρ).setR 5 (.int .i64 16)
  clear hq
  go_enter Tryz.func114, Tryz.ntmps114
  go_wp2_with fail
  clear r5 zr5
  generalize W.setCell ⟨rb, 5, none⟩ (.int .i64 16) = W1 at *
  replace hA1 := hA1.new (Keeps.refl _ W1).drew
  replace hR1 := hR1.new (Keeps.refl _ W1).drew
  replace fr1 := fr1.kN (Keeps.refl _ W1).drew
  have hS := Kill_ok hA1.st hI.wf hno1 hno hfr hlog
  rw [show decide ((ca m.cells (s.att x.no).status).2 = 1) = false from decide_eq_false (by rw [h1]; exact hsv)] at hS
  have hc := hA1.cl
  have f1 := hc.c 1 _ rfl
  have f7 := hc.c 7 _ rfl
  clear hc h1 hsv
  go_region_held3 (fun w' => w'.cell? ⟨ab, 1, none⟩ = some (.pointer (some ⟨c.wb, 0, none⟩)) ∧ w'.cell? ⟨ab, 7, none⟩ = some (.int .i64 (x.no : Int))) (go_keep) (first | (go_at_call 139; refine hS.mono ?_; clear hS; rintro e W3 ⟨rfl, ρ3, s3, x3⟩; have hA3 := hA1.run s3 x3; have hR3 := hR1.run (Sr.not0 hA1.st) x3; have fr3 := fr1.ex x3; have hc3 := hA3.cl; have g1 := hc3.c 1 _ rfl; have g7 := hc3.c 7 _ rfl) | (go_at_call 117; refine (must_bool _ _).mono ?_; rintro e W4 ⟨rfl, rfl⟩))
  clear g1 g7 hc3 hA1 hR1 fr1 s3 x3 f1 f7
  have hT := atook hA3 hR3 (had_swap m _ _ _) (by rw [log_swap]; omega)
  go_wp2_with fail
  refine hT.mono ?_
  rintro e W8 ⟨rfl, hA8, hR8, k8⟩
  have fr8 := fr3.kR k8
  have hD := hA8.new (Keeps.refl _ W8).drew
  have hE := endAs_lost hD (hR8.new (Keeps.refl _ W8).drew) x.why
  have hc := hD.cl
  have f21 := hc.c 21 _ rfl
  clear hT hc
  go_wp2_with fail
  refine wp_region_held_drew (S := fun _ => True) (by kernel_rfl) trivial (fun hHeld => ?_)
  refine wpAnyH_take (i := 0) (v := ?_) rfl (by kernel_rfl) (by kernel_rfl) (by kernel_rfl) (fun _ _ _ h => h) (Or.inl ⟨by rfl, ?_⟩) (by assumption) ?_
  rotate_left
  · intro wx hSw; (try dsimp only at hSw); go_simp <;> with_reducible rfl
  (try simp only [List.getElem_toArray]); (try simp only [List.getElem_cons_succ]); (try simp only [List.getElem_cons_zero]); (try simp only [Act.put]); (try simp only [List.setIfInBounds_toArray]); (repeat first | simp only [List.set_cons_succ] | simp only [List.set_cons_zero])
  refine wpAnyH_take (i := 1) (v := ?_) rfl (by kernel_rfl) (by kernel_rfl) (by kernel_rfl) (fun _ _ _ h => h) (Or.inl ⟨by rfl, ?_⟩) (by assumption) ?_
  rotate_left
  · intro wx hSw; (try dsimp only at hSw); go_simp <;> with_reducible rfl
  (try simp only [List.getElem_toArray]); (try simp only [List.getElem_cons_succ]); (try simp only [List.getElem_cons_zero]); (try simp only [Act.put]); (try simp only [List.setIfInBounds_toArray]); (repeat first | simp only [List.set_cons_succ] | simp only [List.set_cons_zero])
  refine wpAnyH_take (i := 2) (v := ?_) rfl (by kernel_rfl) (by kernel_rfl) (by kernel_rfl) (fun _ _ _ h => h) (Or.inl ⟨by rfl, ?_⟩) (by assumption) ?_
  rotate_left
  · intro wx hSw; (try dsimp only at hSw); go_simp <;> with_reducible rfl
  (try simp only [List.getElem_toArray]); (try simp only [List.getElem_cons_succ]); (try simp only [List.getElem_cons_zero]); (try simp only [Act.put]); (try simp only [List.setIfInBounds_toArray]); (repeat first | simp only [List.set_cons_succ] | simp only [List.set_cons_zero])
  refine wpAnyH_take (i := 3) (v := ?_) rfl (by kernel_rfl) (by kernel_rfl) (by kernel_rfl) (fun _ _ _ h => h) (Or.inl ⟨by rfl, ?_⟩) (by assumption) ?_
  rotate_left
  · intro wx hSw; (try dsimp only at hSw); go_simp <;> with_reducible rfl
  (try simp only [List.getElem_toArray]); (try simp only [List.getElem_cons_succ]); (try simp only [List.getElem_cons_zero]); (try simp only [Act.put]); (try simp only [List.setIfInBounds_toArray]); (repeat first | simp only [List.set_cons_succ] | simp only [List.set_cons_zero])
  refine wpAnyH_take (i := 4) (v := ?_) rfl (by kernel_rfl) (by kernel_rfl) (by kernel_rfl) (fun _ _ _ h => h) (Or.inl ⟨by rfl, ?_⟩) (by assumption) ?_
  rotate_left
  · intro wx hSw; (try dsimp only at hSw); go_simp <;> with_reducible rfl
  (try simp only [List.getElem_toArray]); (try simp only [List.getElem_cons_succ]); (try simp only [List.getElem_cons_zero]); (try simp only [Act.put]); (try simp only [List.setIfInBounds_toArray]); (repeat first | simp only [List.set_cons_succ] | simp only [List.set_cons_zero])
  refine wpAnyH_take (i := 5) (v := ?_) rfl (by kernel_rfl) (by kernel_rfl) (by kernel_rfl) (fun _ _ _ h => h) (Or.inl ⟨by rfl, ?_⟩) (by assumption) ?_
  rotate_left
  · intro wx hSw; (try dsimp only at hSw); go_simp <;> with_reducible rfl
  (try simp only [List.getElem_toArray]); (try simp only [List.getElem_cons_succ]); (try simp only [List.getElem_cons_zero]); (try simp only [Act.put]); (try simp only [List.setIfInBounds_toArray]); (repeat first | simp only [List.set_cons_succ] | simp only [List.set_cons_zero])
  refine wpAnyH_take (i := 6) (v := ?_) rfl (by kernel_rfl) (by kernel_rfl) (by kernel_rfl) (fun _ _ _ h => h) (Or.inl ⟨by rfl, ?_⟩) (by assumption) ?_
  rotate_left
  · intro wx hSw; (try dsimp only at hSw); go_simp <;> with_reducible rfl
  (try simp only [List.getElem_toArray]); (try simp only [List.getElem_cons_succ]); (try simp only [List.getElem_cons_zero]); (try simp only [Act.put]); (try simp only [List.setIfInBounds_toArray]); (repeat first | simp only [List.set_cons_succ] | simp only [List.set_cons_zero])
  refine wpAnyH_take (i := 7) (v := ?_) rfl (by kernel_rfl) (by kernel_rfl) (by kernel_rfl) (fun _ _ _ h => h) (Or.inl ⟨by rfl, ?_⟩) (by assumption) ?_
  rotate_left
  · intro wx hSw; (try dsimp only at hSw); go_simp <;> with_reducible rfl
  (try simp only [List.getElem_toArray]); (try simp only [List.getElem_cons_succ]); (try simp only [List.getElem_cons_zero]); (try simp only [Act.put]); (try simp only [List.setIfInBounds_toArray]); (repeat first | simp only [List.set_cons_succ] | simp only [List.set_cons_zero])
  refine wpAnyH_take (i := 11) (v := ?_) rfl (by kernel_rfl) (by kernel_rfl) (by kernel_rfl) (fun _ _ _ h => h) (Or.inl ⟨by rfl, ?_⟩) (by assumption) ?_
  rotate_left
  · intro wx hSw; (try dsimp only at hSw); go_simp <;> with_reducible rfl
  (try simp only [List.getElem_toArray]); (try simp only [List.getElem_cons_succ]); (try simp only [List.getElem_cons_zero]); (try simp only [Act.put]); (try simp only [List.setIfInBounds_toArray]); (repeat first | simp only [List.set_cons_succ] | simp only [List.set_cons_zero])
  refine wpAnyH_take (i := 12) (v := ?_) rfl (by kernel_rfl) (by kernel_rfl) (by kernel_rfl) (fun _ _ _ h => h) (Or.inl ⟨by rfl, ?_⟩) (by assumption) ?_
  rotate_left
  · intro wx hSw; (try dsimp only at hSw); go_simp <;> with_reducible rfl
  (try simp only [List.getElem_toArray]); (try simp only [List.getElem_cons_succ]); (try simp only [List.getElem_cons_zero]); (try simp only [Act.put]); (try simp only [List.setIfInBounds_toArray]); (repeat first | simp only [List.set_cons_succ] | simp only [List.set_cons_zero])
  refine wpAnyH_take (i := 13) (v := ?_) rfl (by kernel_rfl) (by kernel_rfl) (by kernel_rfl) (fun _ _ _ h => h) (Or.inl ⟨by rfl, ?_⟩) (by assumption) ?_
  rotate_left
  · intro wx hSw; (try dsimp only at hSw); go_simp <;> with_reducible rfl
  (try simp only [List.getElem_toArray]); (try simp only [List.getElem_cons_succ]); (try simp only [List.getElem_cons_zero]); (try simp only [Act.put]); (try simp only [List.setIfInBounds_toArray]); (repeat first | simp only [List.set_cons_succ] | simp only [List.set_cons_zero])
  refine wpAnyH_take (i := 14) (v := ?_) rfl (by kernel_rfl) (by kernel_rfl) (by kernel_rfl) (fun _ _ _ h => h) (Or.inl ⟨by rfl, ?_⟩) (by assumption) ?_
  rotate_left
  · intro wx hSw; (try dsimp only at hSw); go_simp <;> with_reducible rfl
  (try simp only [List.getElem_toArray]); (try simp only [List.getElem_cons_succ]); (try simp only [List.getElem_cons_zero]); (try simp only [Act.put]); (try simp only [List.setIfInBounds_toArray]); (repeat first | simp only [List.set_cons_succ] | simp only [List.set_cons_zero])
  refine wpAnyH_two 8 15 (by kernel_rfl) rfl rfl (by rfl) (by rfl) ?_ ?_
  · go_simp
    refine wpAnyH_take (i := 9) (v := ?_) rfl (by kernel_rfl) (by kernel_rfl) (by kernel_rfl) (fun _ _ _ h => h) (Or.inl ⟨by rfl, ?_⟩) (by assumption) ?_
    rotate_left
    · intro wx hSw; (try dsimp only at hSw); go_simp <;> with_reducible rfl
    (try simp only [List.getElem_toArray]); (try simp only [List.getElem_cons_succ]); (try simp only [List.getElem_cons_zero]); (try simp only [Act.put]); (try simp only [List.setIfInBounds_toArray]); (repeat first | simp only [List.set_cons_succ] | simp only [List.set_cons_zero])
    refine wpAnyH_take (i := 10) (v := ?_) rfl (by kernel_rfl) (by kernel_rfl) (by kernel_rfl) (fun _ _ _ h => h) (Or.inl ⟨by rfl, ?_⟩) (by assumption) ?_
    rotate_left
    · intro wx hSw; (try dsimp only at hSw); go_simp <;> with_reducible rfl
    (try simp only [List.getElem_toArray]); (try simp only [List.getElem_cons_succ]); (try simp only [List.getElem_cons_zero]); (try simp only [Act.put]); (try simp only [List.setIfInBounds_toArray]); (repeat first | simp only [List.set_cons_succ] | simp only [List.set_cons_zero])
    refine wpAnyH_one 15 (by kernel_rfl) rfl rfl ?_
    go_simp
    refine wpAnyH_one 16 (by kernel_rfl) rfl rfl ?_
    go_simp
    refine hE.mono ?_
    rintro e W9 ⟨rfl, hA9, hR9, fr9⟩
    refine wpAnyH_done (by kernel_rfl) ?_ _
    go_end0
    exact ⟨rfl, ρ3, hA9, hR9, (fr8.kN (Keeps.refl _ W8).drew).tr fr9⟩
  · go_simp
    refine wpAnyH_oneW 8 (by kernel_rfl) rfl (by rfl) ?_
    go_simp
    refine wpAnyH_take (i := 9) (v := ?_) rfl (by kernel_rfl) (by kernel_rfl) (by kernel_rfl) (fun _ _ _ h => h) (Or.inl ⟨by rfl, ?_⟩) (by assumption) ?_
    rotate_left
    · intro wx hSw; (try dsimp only at hSw); go_simp <;> with_reducible rfl
    (try simp only [List.getElem_toArray]); (try simp only [List.getElem_cons_succ]); (try simp only [List.getElem_cons_zero]); (try simp only [Act.put]); (try simp only [List.setIfInBounds_toArray]); (repeat first | simp only [List.set_cons_succ] | simp only [List.set_cons_zero])
    refine wpAnyH_take (i := 10) (v := ?_) rfl (by kernel_rfl) (by kernel_rfl) (by kernel_rfl) (fun _ _ _ h => h) (Or.inl ⟨by rfl, ?_⟩) (by assumption) ?_
    rotate_left
    · intro wx hSw; (try dsimp only at hSw); go_simp <;> with_reducible rfl
    (try simp only [List.getElem_toArray]); (try simp only [List.getElem_cons_succ]); (try simp only [List.getElem_cons_zero]); (try simp only [Act.put]); (try simp only [List.setIfInBounds_toArray]); (repeat first | simp only [List.set_cons_succ] | simp only [List.set_cons_zero])
    refine wpAnyH_one 16 (by kernel_rfl) rfl rfl ?_
    go_simp
    refine hE.mono ?_
    rintro e W9 ⟨rfl, hA9, hR9, fr9⟩
    refine wpAnyH_done (by kernel_rfl) ?_ _
    go_end0
    exact ⟨rfl, ρ3, hA9, hR9, (fr8.kN (Keeps.refl _ W8).drew).tr fr9⟩
end
end Go.Proofs.YtgjndhbfjofkeaaGreatDoor

