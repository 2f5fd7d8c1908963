import Derived.Test.YtmcchconnfoffaaDoorKeepSt
import Derived.Test.YtmcchconnfoffaaDoorCmSt
import Derived.Test.YtmcchconnfoffaaDoorCmLaid
namespace Go.Proofs.YtmcchconnfoffaaDoor
open Go.RowKit
theorem results_cell1 {fn : Func} {p : Tmp} {ty : TypeId} (h : fn.results = #[.cell p ty]) (tmps : Array Value) (P : Program) (w : World) :
    (results fn tmps).run P w = ((asAddr (tmps.getD p undef)).run P w).andThen fun a w₁ => (loadVar ty a).run P w₁ := by
  simp only [results, h]
  simp [Sem.run_bind, Result.andThen]
/-- No manager. -/
def NM (w : World) (a : Option Addr) : Prop := a = none ∨ ∃ b, a = some ⟨b, 0, none⟩ ∧ w.cell? ⟨b, 0, none⟩ = some .nilIface
theorem NM.nil (w : World) : NM w none := .inl rfl
theorem NM.keep {w w' : World} {a : Option Addr} (h : NM w a) (k : Keeps (fun _ => False) w w') : NM w' a :=
  h.elim .inl (fun ⟨b, e, c⟩ => .inr ⟨b, e, k.cell c id⟩)
theorem isNone_yes {w : World} {a : Option Addr} (h : NM w a) : Calls Tryd.prog 16 #[.pointer a] w fun e w' => e = .returned (.bool true) ∧ w' = w := by
  rcases h with rfl | ⟨b, rfl, hc⟩
  · go_enter Tryd.func16, Tryd.ntmps16
    go_wp2
    go_ret
    exact ⟨rfl, rfl⟩
  · go_enter Tryd.func16, Tryd.ntmps16
    go_wp2
    go_ret
    exact ⟨rfl, rfl⟩
theorem abort_any (w : World) : Calls Tryd.prog 18 #[] w fun e w' => e = .returned (.agg #[.bool true, .bool false, .int .i64 0]) ∧ Keeps (fun _ => False) w w' := by
  go_enter Tryd.func18, Tryd.ntmps18
  go_wp2
  refine bodyPost_ret (v := .agg #[.bool true, .bool false, .int .i64 0]) ?_ rfl ⟨rfl, (Keeps.refl _ w).alloc _⟩
  rw [results_cell1 rfl]
  go_simp
theorem noKind {w : World} {a : Option Addr} (h : NM w a) : Calls Tryd.prog 9 #[.pointer a] w fun e w' => e = .returned (.int .i64 0) ∧ w' = w := by
  have hi := isNone_yes h
  go_enter Tryd.func9, Tryd.ntmps9
  go_wp2_with (go_at_call 16; refine hi.mono ?_; rintro e w1 ⟨rfl, rfl⟩)
  go_ret
  exact ⟨rfl, rfl⟩
theorem noPatience {w : World} {a : Option Addr} (h : NM w a) : Calls Tryd.prog 11 #[.pointer a] w fun e w' => e = .returned (.int .i64 0) ∧ w' = w := by
  have hi := isNone_yes h
  go_enter Tryd.func11, Tryd.ntmps11
  go_wp2_with (go_at_call 16; refine hi.mono ?_; rintro e w1 ⟨rfl, rfl⟩)
  go_ret
  exact ⟨rfl, rfl⟩
theorem noTrait {w : World} {a : Option Addr} (h : NM w a) : Calls Tryd.prog 17 #[.pointer a] w fun e w' => e = .returned (.agg #[.string ⟨#[]⟩, .int .i64 0, .bool false, .bool false]) ∧ Keeps (fun _ => False) w w' := by
  have h1 := fun ob => isNone_yes (h.keep ((Keeps.refl _ w).alloc ob))
  go_enter Tryd.func17, Tryd.ntmps17
  go_wp2_with (go_at_call 16; refine (h1 _).mono ?_; rintro e w1 ⟨rfl, rfl⟩)
  refine bodyPost_ret (v := .agg #[.string ⟨#[]⟩, .int .i64 0, .bool false, .bool false]) ?_ rfl ⟨rfl, (Keeps.refl _ w).alloc _⟩
  rw [results_cell1 rfl]
  go_simp
theorem noName {w : World} {a : Option Addr} (h : NM w a) : Calls Tryd.prog 10 #[.pointer a] w fun e w' => e = .returned (.string ⟨#[]⟩) ∧ Keeps (fun _ => False) w w' := by
  have hi := noTrait h
  have hfld : ∀ w' : World, (Instr.field 45 (.agg #[.string ⟨#[]⟩, .int .i64 0, .bool false, .bool false]) 0).run Tryd.prog w' = .ok (.string ⟨#[]⟩) w' := fun _ => by kernel_rfl
  go_enter Tryd.func10, Tryd.ntmps10
  go_wp2_with (go_at_call 17; refine hi.mono ?_; rintro e w1 ⟨rfl, k1⟩)
  go_ret
  exact ⟨rfl, k1⟩
theorem noLook {w : World} {a : Option Addr} (h : NM w a) : Calls Tryd.prog 12 #[.pointer a] w fun e w' => e = .returned (.int .i64 0) ∧ Keeps (fun _ => False) w w' := by
  have hi := noTrait h
  have hfld : ∀ w' : World, (Instr.field 45 (.agg #[.string ⟨#[]⟩, .int .i64 0, .bool false, .bool false]) 1).run Tryd.prog w' = .ok (.int .i64 0) w' := fun _ => by kernel_rfl
  go_enter Tryd.func12, Tryd.ntmps12
  go_wp2_with (go_at_call 17; refine hi.mono ?_; rintro e w1 ⟨rfl, k1⟩)
  go_ret
  exact ⟨rfl, k1⟩
theorem noKeeps {w : World} {a : Option Addr} (h : NM w a) : Calls Tryd.prog 13 #[.pointer a] w fun e w' => e = .returned (.bool false) ∧ Keeps (fun _ => False) w w' := by
  have hi := noTrait h
  have hfld : ∀ w' : World, (Instr.field 45 (.agg #[.string ⟨#[]⟩, .int .i64 0, .bool false, .bool false]) 2).run Tryd.prog w' = .ok (.bool false) w' := fun _ => by kernel_rfl
  go_enter Tryd.func13, Tryd.ntmps13
  go_wp2_with (go_at_call 17; refine hi.mono ?_; rintro e w1 ⟨rfl, k1⟩)
  go_ret
  exact ⟨rfl, k1⟩
theorem noFlags {w : World} {a : Option Addr} (h : NM w a) : Calls Tryd.prog 14 #[.pointer a] w fun e w' => e = .returned (.bool false) ∧ Keeps (fun _ => False) w w' := by
  have hi := noTrait h
  have hfld : ∀ w' : World, (Instr.field 45 (.agg #[.string ⟨#[]⟩, .int .i64 0, .bool false, .bool false]) 3).run Tryd.prog w' = .ok (.bool false) w' := fun _ => by kernel_rfl
  go_enter Tryd.func14, Tryd.ntmps14
  go_wp2_with (go_at_call 17; refine hi.mono ?_; rintro e w1 ⟨rfl, k1⟩)
  go_ret
  exact ⟨rfl, k1⟩
set_option maxHeartbeats 1600000 in
theorem noJudge {w : World} {a : Option Addr} (h : NM w a) {mine theirs born enemy : Int} {flag : Bool} {tries waited draw : Int} : Calls Tryd.prog 15 #[.pointer a, .agg #[.int .i64 mine, .int .i64 theirs, .int .i64 born, .int .i64 enemy, .bool flag, .int .i64 tries, .int .i64 waited, .int .i64 draw]] w fun e w' => e = .returned (.agg #[.bool true, .bool false, .int .i64 0]) ∧ Keeps (fun _ => False) w w' := by
  obtain ⟨w0, hw0⟩ : ∃ w0, w0 = (w.alloc (.cells #[.int .i64 mine, .int .i64 theirs, .int .i64 born, .int .i64 enemy, .bool flag, .int .i64 tries, .int .i64 waited, .int .i64 draw] 31)).alloc (.cells #[.bool false, .bool false, .int .i64 0] 41) := ⟨_, rfl⟩
  have K0 : Keeps (fun _ => False) w w0 := by rw [hw0]; exact ((Keeps.refl _ w).alloc _).alloc _
  have c0 : w0.cell? ⟨w.heap.size + 1, 0, none⟩ = some (.bool false) := by rw [hw0]; go_simp
  have c1 : w0.cell? ⟨w.heap.size + 1, 1, none⟩ = some (.bool false) := by rw [hw0]; go_simp
  have c2 : w0.cell? ⟨w.heap.size + 1, 2, none⟩ = some (.int .i64 0) := by rw [hw0]; go_simp
  have zz : ∀ o, w0.frozen? ⟨w.heap.size + 1, o, none⟩ = false := by intro o; rw [hw0]; go_simp
  have hs : w.heap.size + 1 < w0.heap.size := World.block_lt_of_cell? _ _ c0
  have hi := isNone_yes (h.keep K0)
  go_enter Tryd.func15, Tryd.ntmps15
  go_wp2_with fail
  rw [← hw0]
  clear hw0
  refine hi.mono ?_
  rintro e w1 ⟨rfl, rfl⟩
  go_wp2_with fail
  refine (abort_any _).mono ?_
  rintro e w2 ⟨rfl, k2⟩
  have d0 := k2.cell c0 id
  have d1 := k2.cell c1 id
  have d2 := k2.cell c2 id
  have z0 := (k2.frozen (p := ⟨w.heap.size + 1, 0, none⟩) hs id).trans (zz 0)
  have z1 := (k2.frozen (p := ⟨w.heap.size + 1, 1, none⟩) hs id).trans (zz 1)
  have z2 := (k2.frozen (p := ⟨w.heap.size + 1, 2, none⟩) hs id).trans (zz 2)
  clear zz c0 c1 c2
  go_wp2_with fail
  have nl : ∀ o, (⟨w.heap.size + 1, o, none⟩ : Addr).block < w.heap.size → False := fun o h => by
    have : w.heap.size + 1 < w.heap.size := h
    omega
  refine bodyPost_ret (v := .agg #[.bool true, .bool false, .int .i64 0]) ?_ rfl ⟨rfl, (((K0.trans k2).setCell (p := ⟨w.heap.size + 1, 0, none⟩) (nl 0) _).setCell (p := ⟨w.heap.size + 1, 1, none⟩) (nl 1) _).setCell (p := ⟨w.heap.size + 1, 2, none⟩) (nl 2) _⟩
  rw [results_cell1 rfl]
  go_simp
def CB (w : World) (b : Nat) (c : Cf) : Prop :=
  w.cell? ⟨b, 0, none⟩ = some (.int .i64 c.mine) ∧ w.cell? ⟨b, 1, none⟩ = some (.int .i64 c.theirs) ∧ w.cell? ⟨b, 2, none⟩ = some (.int .i64 c.born) ∧ w.cell? ⟨b, 3, none⟩ = some (.int .i64 c.enemy) ∧ w.cell? ⟨b, 4, none⟩ = some (.bool c.flag) ∧ w.cell? ⟨b, 5, none⟩ = some (.int .i64 c.tries) ∧ w.cell? ⟨b, 6, none⟩ = some (.int .i64 c.waited) ∧ w.cell? ⟨b, 7, none⟩ = some (.int .i64 c.draw)
theorem CB.keep {w w' : World} {b : Nat} {c : Cf} (h : CB w b c) (k : Keeps (fun _ => False) w w') : CB w' b c :=
  ⟨k.cell h.1 id, k.cell h.2.1 id, k.cell h.2.2.1 id, k.cell h.2.2.2.1 id, k.cell h.2.2.2.2.1 id, k.cell h.2.2.2.2.2.1 id, k.cell h.2.2.2.2.2.2.1 id, k.cell h.2.2.2.2.2.2.2 id⟩
theorem CB.mk (w : World) (c : Cf) : CB (w.alloc (.cells #[.int .i64 c.mine, .int .i64 c.theirs, .int .i64 c.born, .int .i64 c.enemy, .bool c.flag, .int .i64 c.tries, .int .i64 c.waited, .int .i64 c.draw] 31)) w.heap.size c := by
  refine ⟨?_, ?_, ?_, ?_, ?_, ?_, ?_, ?_⟩ <;> simp
set_option maxHeartbeats 3200000 in
set_option maxRecDepth 1000000 in
theorem noneWalk0 (w : World) {mine theirs born enemy : Int} {flag : Bool} {tries waited draw : Int} : Calls Tryd.prog 4 #[.agg #[.int .i64 mine, .int .i64 theirs, .int .i64 born, .int .i64 enemy, .bool flag, .int .i64 tries, .int .i64 waited, .int .i64 draw]] w fun e w' => e = .returned (.bool true) ∧ Below w.heap.size w w' := by
  obtain ⟨w0, hw0⟩ : ∃ w0, w0 = (w.alloc (.cells #[.int .i64 mine, .int .i64 theirs, .int .i64 born, .int .i64 enemy, .bool flag, .int .i64 tries, .int .i64 waited, .int .i64 draw] 31)).alloc (.cells #[.nilIface] 35) := ⟨_, rfl⟩
  have KK : Keeps (fun _ => False) w w0 := by rw [hw0]; exact ((Keeps.refl _ w).alloc _).alloc _
  have CC : CB w0 w.heap.size ⟨mine, theirs, born, enemy, flag, tries, waited, draw⟩ := by rw [hw0]; exact (CB.mk w ⟨mine, theirs, born, enemy, flag, tries, waited, draw⟩).keep ((Keeps.refl _ _).alloc _)
  have HZ : NM w0 (some ⟨w.heap.size + 1, 0, none⟩) := .inr ⟨_, rfl, by rw [hw0]; go_simp⟩
  go_enter Tryd.func4, Tryd.ntmps4
  go_wp2_with fail
  rw [← hw0]
  clear hw0
  refine (noKind HZ).mono ?_
  rintro e w1 ⟨rfl, rfl⟩
  have ⟨d0, d1, d2, d3, d4, d5, d6, d7⟩ := CC
  go_wp2_with (first | (go_at_call 10; (with_reducible refine (noName HZ).mono ?_); rintro e w2 ⟨rfl, k2⟩; replace HZ := HZ.keep k2; replace CC := CC.keep k2; replace KK := KK.trans k2; clear k2; have ⟨d0, d1, d2, d3, d4, d5, d6, d7⟩ := CC) | (go_at_call 10; (with_reducible refine (noName (NM.nil _)).mono ?_); rintro e w2 ⟨rfl, k2⟩; replace HZ := HZ.keep k2; replace CC := CC.keep k2; replace KK := KK.trans k2; clear k2; have ⟨d0, d1, d2, d3, d4, d5, d6, d7⟩ := CC) | (go_at_call 12; (with_reducible refine (noLook HZ).mono ?_); rintro e w2 ⟨rfl, k2⟩; replace HZ := HZ.keep k2; replace CC := CC.keep k2; replace KK := KK.trans k2; clear k2; have ⟨d0, d1, d2, d3, d4, d5, d6, d7⟩ := CC) | (go_at_call 12; (with_reducible refine (noLook (NM.nil _)).mono ?_); rintro e w2 ⟨rfl, k2⟩; replace HZ := HZ.keep k2; replace CC := CC.keep k2; replace KK := KK.trans k2; clear k2; have ⟨d0, d1, d2, d3, d4, d5, d6, d7⟩ := CC) | (go_at_call 13; (with_reducible refine (noKeeps HZ).mono ?_); rintro e w2 ⟨rfl, k2⟩; replace HZ := HZ.keep k2; replace CC := CC.keep k2; replace KK := KK.trans k2; clear k2; have ⟨d0, d1, d2, d3, d4, d5, d6, d7⟩ := CC) | (go_at_call 13; (with_reducible refine (noKeeps (NM.nil _)).mono ?_); rintro e w2 ⟨rfl, k2⟩; replace HZ := HZ.keep k2; replace CC := CC.keep k2; replace KK := KK.trans k2; clear k2; have ⟨d0, d1, d2, d3, d4, d5, d6, d7⟩ := CC) | (go_at_call 14; (with_reducible refine (noFlags HZ).mono ?_); rintro e w2 ⟨rfl, k2⟩; replace HZ := HZ.keep k2; replace CC := CC.keep k2; replace KK := KK.trans k2; clear k2; have ⟨d0, d1, d2, d3, d4, d5, d6, d7⟩ := CC) | (go_at_call 14; (with_reducible refine (noFlags (NM.nil _)).mono ?_); rintro e w2 ⟨rfl, k2⟩; replace HZ := HZ.keep k2; replace CC := CC.keep k2; replace KK := KK.trans k2; clear k2; have ⟨d0, d1, d2, d3, d4, d5, d6, d7⟩ := CC) | (go_at_call 15; (with_reducible refine (noJudge HZ).mono ?_); rintro e w2 ⟨rfl, k2⟩; replace HZ := HZ.keep k2; replace CC := CC.keep k2; replace KK := KK.trans k2; clear k2; have ⟨d0, d1, d2, d3, d4, d5, d6, d7⟩ := CC) | (go_at_call 15; (with_reducible refine (noJudge (NM.nil _)).mono ?_); rintro e w2 ⟨rfl, k2⟩; replace HZ := HZ.keep k2; replace CC := CC.keep k2; replace KK := KK.trans k2; clear k2; have ⟨d0, d1, d2, d3, d4, d5, d6, d7⟩ := CC) | (go_at_call 9; (with_reducible refine (noKind HZ).mono ?_); rintro e w2 ⟨rfl, rfl⟩) | (go_at_call 9; (with_reducible refine (noKind (NM.nil _)).mono ?_); rintro e w2 ⟨rfl, rfl⟩) | (go_at_call 11; (with_reducible refine (noPatience HZ).mono ?_); rintro e w2 ⟨rfl, rfl⟩) | (go_at_call 11; (with_reducible refine (noPatience (NM.nil _)).mono ?_); rintro e w2 ⟨rfl, rfl⟩))
  go_ret
  exact ⟨rfl, KK.below (Nat.le_refl _) (fun _ _ e => e)⟩
theorem noneWalk (w : World) (_ : TR w) (c : Cf) (_ : c.ok) : Calls Tryd.prog 4 #[cfv c] w fun e w' => e = .returned (.bool true) ∧ Below w.heap.size w w' := noneWalk0 w
end Go.Proofs.YtmcchconnfoffaaDoor
