import Derived.Test.YtgjndhbfjofkeaaGreatDoorG19
namespace Go.Proofs.YtgjndhbfjofkeaaGreatDoor
open Go.RowKit Go.Maps Go.ChangeMaps Go.MapKept Go.WideShapes
attribute [local go_sem] Oper.semAt_some run_store_nf run_store_f
section
variable {w w' : World} {ρ ρ' ρ'' : Nat → Nat} {u j : Nat} {c : Sc} {ab rb n n' : Nat} {x x' : Tx} {f f' : Int → Option Nat} {s s' : Ws} {m m' : Mm} {r r' : Ro}
theorem OM.get {mb : Nat} (h : OM w mb n f) {k : Int} (hk : I64 k) : (Instr.lookup 135 (.map (some mb)) (.int .i64 k) false).run Tryz.prog w = .ok (.int .i64 (((f k).getD 0 : Nat) : Int)) w := by
  obtain ⟨D, h1, h2, h3⟩ := h
  obtain ⟨c, hrun, hat, _⟩ := h1.lookup_int keyed underM underI (zeroI w) (key_int hk)
  rw [(h3 k hk).2] at hat
  cases hat
  exact hrun
set_option maxHeartbeats 800000 in
set_option maxRecDepth 1000000 in
theorem local_own (ho : I64 x.object) {l : Nat} (hfo : f x.object = some l) (hl : l < s.locs.length) {qo qd qn : Nat} {qu : Bool} (hQ0 : s.lo l = ⟨qo, qd, qn, qu⟩) (hv : qn < s.vals.length) :
    Goes 84 u j c ab ρ x x.thru n n f f s s m m { ({ x.blank with kind := 3, object := x.object } : Ro) with entry := -1, told := true, val := s.vl qn } := by
  intro W rb hA hR
  have hq5 := hR.cl
  have r5 := hq5.c 5 _ rfl
  have zr5 := hq5.z 5 (by show 5 < 26; decide)
  have r7 := hq5.c 7 _ rfl
  have zr7 := hq5.z 7 (by show 7 < 26; decide)
  have hc := hA.cl
  have f17 := hc.c 17 _ rfl
  have hR0 : RX (W.setCell ⟨rb, 5, none⟩ (.int .i64 3)) ρ c ab rb { x.blank with kind := 3 } := hR.set1 (o := 5) (by decide) _ rfl
  have hR1 : RX ((W.setCell ⟨rb, 5, none⟩ (.int .i64 3)).setCell ⟨rb, 7, none⟩ (.int .i64 x.object)) ρ c ab rb { x.blank with kind := 3, object := x.object } := hR0.set1 (o := 7) (by decide) _ rfl
  have hA1 := (hA.setR hR 5 (.int .i64 3)).setR hR0 7 (.int .i64 x.object)
  have fr1 := ((Fr.refl (OwnR c ab rb) u j W ρ).setR 5 (.int .i64 3)).setR 7 (.int .i64 x.object)
  have hOw := owns_any hA1 ho
  rw [show (f x.object).isSome = true by rw [hfo]; rfl] at hOw
  have hc1 := hA1.cl
  have g17 := hc1.c 17 _ rfl
  have n1 := hR.n1
  have n1' := hR.n1.symm
  clear hq5 hc hc1
  go_enter Tryz.func84, Tryz.ntmps84
  go_wp2_with fail
  clear r5 zr5 r7 zr7 f17 hR0
  generalize (W.setCell ⟨rb, 5, none⟩ (.int .i64 3)).setCell ⟨rb, 7, none⟩ (.int .i64 x.object) = W1 at *
  refine hOw.mono ?_
  rintro e W0 ⟨rfl, rfl⟩
  clear hOw g17
  go_wp2_with fail
  have ka : Keeps (fun _ => False) W0 (W0.alloc (.cells #[.int .i64 0, .int .i64 0, .int .i64 0] 157)).drew := ((Keeps.refl _ W0).alloc _).drew
  have hEa : CL (W0.alloc (.cells #[.int .i64 0, .int .i64 0, .int .i64 0] 157)).drew W0.heap.size [.int .i64 0, .int .i64 0, .int .i64 0] := (CL.made W0 [.int .i64 0, .int .i64 0, .int .i64 0] _).drew
  have hXa := hA1.new ka
  have hXb := hA1.new (Keeps.refl _ W0).drew
  have lta : ab < W0.heap.size := hA1.alt
  have na : ¬ ab = W0.heap.size := by omega
  have na2 : ¬ W0.heap.size = ab := by omega
  have rz : ρ W0.heap.size = 0 := hA1.st.bnd _ (Nat.le_refl _)
  have nq : ¬ c.Q W0.heap.size := fun e => by have := hA1.qlt e; omega
  have hcb := hXb.cl
  have g1 := hcb.c 1 _ rfl
  have g14 := hcb.c 14 _ rfl
  have g17 := hcb.c 17 _ rfl
  have hlk : (Instr.lookup 135 (.map (some c.om)) (.int .i64 x.object) false).run Tryz.prog W0.drew = .ok (.int .i64 (l : Int)) W0.drew := by
    have := hXb.om.get ho
    rw [hfo] at this
    exact this
  have hlka : (Instr.lookup 135 (.map (some c.om)) (.int .i64 x.object) false).run Tryz.prog (W0.alloc (.cells #[.int .i64 0, .int .i64 0, .int .i64 0] 157)).drew = .ok (.int .i64 (l : Int)) (W0.alloc (.cells #[.int .i64 0, .int .i64 0, .int .i64 0] 157)).drew := by
    have := hXa.om.get ho
    rw [hfo] at this
    exact this
  have hLa := Locator_ok hXa.st hl
  have hLb := Locator_ok hXb.st hl
  have HFO : Hid (f x.object = some l) := hfo
  clear hcb hfo
  rw [hQ0] at hLa hLb
  simp only at hLa hLb
  clear hQ0
  have HS : ∀ W', Keeps (fun _ => False) W0 W' → W'.cell? ⟨ab, 1, none⟩ = some (.pointer (some ⟨c.wb, 0, none⟩)) ∧ W'.cell? ⟨ab, 14, none⟩ = some (.map (some c.om)) ∧ W'.cell? ⟨ab, 17, none⟩ = some (.int .i64 x.object) ∧ (Instr.lookup 135 (.map (some c.om)) (.int .i64 x.object) false).run Tryz.prog W' = .ok (.int .i64 (l : Int)) W' := fun W' k => by
    have h9 := hA1.new k
    have hc9 := h9.cl
    refine ⟨hc9.c 1 _ rfl, hc9.c 14 _ rfl, hc9.c 17 _ rfl, ?_⟩
    have := h9.om.get ho
    rw [HFO.out] at this
    exact this
  have n0 : ∀ B, W0.heap.size ≤ B → (B < W0.heap.size → False) := fun B h e => absurd e (Nat.not_lt.2 h)
  go_region_held3 (fun w' => w'.cell? ⟨ab, 1, none⟩ = some (.pointer (some ⟨c.wb, 0, none⟩)) ∧ w'.cell? ⟨ab, 14, none⟩ = some (.map (some c.om)) ∧ w'.cell? ⟨ab, 17, none⟩ = some (.int .i64 x.object) ∧ (Instr.lookup 135 (.map (some c.om)) (.int .i64 x.object) false).run Tryz.prog w' = .ok (.int .i64 (l : Int)) w') (first | exact HS _ (Keeps.refl _ W0).drew | exact HS _ ka | exact HS _ kk | exact HS _ (kk.alloc _) | exact HS _ kk4 | exact HS _ (kk4.alloc _) | exact HS _ (((kk4.setCell (n0 _ (Nat.le_refl _)) _).setCell (n0 _ (Nat.le_refl _)) _).setCell (n0 _ (Nat.le_refl _)) _) | exact HS _ (((kk4.setCell (n0 _ kk.size) _).setCell (n0 _ kk.size) _).setCell (n0 _ kk.size) _)) (first | (go_at_call 106; (with_reducible refine hLa.mono ?_); rintro e W3 ⟨rfl, k3⟩; have hA3 := hXa.new k3; have e3 := hEa.keep (by show 0 < 3; decide) k3 (fun e => e); have kk := ka.trans k3) | (go_at_call 106; (with_reducible refine hLb.mono ?_); rintro e W3 ⟨rfl, k3⟩; have hA3 := hXb.new k3; have kk := (Keeps.refl (fun _ => False) W0).drew.trans k3) | (go_at_call 105; refine (must_loc _ _ _ _).mono ?_; rintro e W4 ⟨rfl, k4⟩; first | (have e4 := e3.keep (by show 0 < 3; decide) k4 (fun e => e); have hA4 := hA3.new k4; have kk4 := kk.trans k4; have e0 := e4.c 0 _ rfl; have e1 := e4.c 1 _ rfl; have e2 := e4.c 2 _ rfl; have ze0 := e4.z 0 (by show 0 < 3; decide); have ze1 := e4.z 1 (by show 1 < 3; decide); have ze2 := e4.z 2 (by show 2 < 3; decide)) | (have e4 := (CL.made W3 [.int .i64 0, .int .i64 0, .int .i64 0] 157).keep (by show 0 < 3; decide) k4 (fun e => e); have hA4 := (hA3.new ((Keeps.refl _ W3).alloc _)).new k4; have kk4 := (kk.alloc _).trans k4; have e0 := e4.c 0 _ rfl; have e1 := e4.c 1 _ rfl; have e2 := e4.c 2 _ rfl; have ze0 := e4.z 0 (by show 0 < 3; decide); have ze1 := e4.z 1 (by show 1 < 3; decide); have ze2 := e4.z 2 (by show 2 < 3; decide)) | (have hA4 := hA3.new k4; have kk4 := kk.trans k4)))
  · rename_i hHeld
    have hQ : CL (W4.alloc (.cells #[.int .i64 (qo : Int), .int .i64 (qd : Int), .int .i64 (qn : Int)] 157)) W4.heap.size [.int .i64 (qo : Int), .int .i64 (qd : Int), .int .i64 (qn : Int)] := CL.made W4 [.int .i64 (qo : Int), .int .i64 (qd : Int), .int .i64 (qn : Int)] 157
    have KX : Keeps (fun _ => False) W0 (W4.alloc (.cells #[.int .i64 (qo : Int), .int .i64 (qd : Int), .int .i64 (qn : Int)] 157)) := kk4.alloc _
    clear g1 g14 g17 hlk hlka HS hXa hXb hLa hLb hEa ka
    generalize W4.alloc (.cells #[.int .i64 (qo : Int), .int .i64 (qd : Int), .int .i64 (qn : Int)] 157) = W5 at *
    have hA5 := hA1.new KX
    have hR5 := hR1.new KX
    have fr5 := fr1.kN KX
    have hT := tell_ok hA5 hR5 hv (-1)
    have q2 := hQ.c 2 _ rfl
    clear hQ hHeld
    go_wp2_with fail
    refine hT.mono ?_
    rintro e W9 ⟨rfl, hA9, hR9, fr9⟩
    go_wp2_with fail
    (try simp only [Exit.then])
    refine bodyPost_ret (results_none rfl _ _ _) rfl ?_
    exact ⟨rfl, ρ, hA9, hR9, fr5.tr fr9⟩
  · rename_i hHeld
    have hQ : CL (((W4.setCell ⟨W3.heap.size, 0, none⟩ (.int .i64 (qo : Int))).setCell ⟨W3.heap.size, 1, none⟩ (.int .i64 (qd : Int))).setCell ⟨W3.heap.size, 2, none⟩ (.int .i64 (qn : Int))) W3.heap.size [.int .i64 (qo : Int), .int .i64 (qd : Int), .int .i64 (qn : Int)] := ((e4.set (o := 0) (by show 0 < 3; decide) (.int .i64 (qo : Int))).set (o := 1) (by show 1 < 3; decide) (.int .i64 (qd : Int))).set (o := 2) (by show 2 < 3; decide) (.int .i64 (qn : Int))
    have KX : Keeps (fun _ => False) W0 (((W4.setCell ⟨W3.heap.size, 0, none⟩ (.int .i64 (qo : Int))).setCell ⟨W3.heap.size, 1, none⟩ (.int .i64 (qd : Int))).setCell ⟨W3.heap.size, 2, none⟩ (.int .i64 (qn : Int))) := ((kk4.setCell (n0 _ kk.size) _).setCell (n0 _ kk.size) _).setCell (n0 _ kk.size) _
    clear e0 e1 e2 ze0 ze1 ze2 e4 g1 g14 g17 hlk hlka HS hXa hXb hLa hLb hEa ka
    generalize ((W4.setCell ⟨W3.heap.size, 0, none⟩ (.int .i64 (qo : Int))).setCell ⟨W3.heap.size, 1, none⟩ (.int .i64 (qd : Int))).setCell ⟨W3.heap.size, 2, none⟩ (.int .i64 (qn : Int)) = W5 at *
    have hA5 := hA1.new KX
    have hR5 := hR1.new KX
    have fr5 := fr1.kN KX
    have hT := tell_ok hA5 hR5 hv (-1)
    have q2 := hQ.c 2 _ rfl
    clear hQ hHeld
    go_wp2_with fail
    refine hT.mono ?_
    rintro e W9 ⟨rfl, hA9, hR9, fr9⟩
    go_wp2_with fail
    (try simp only [Exit.then])
    refine bodyPost_ret (results_none rfl _ _ _) rfl ?_
    exact ⟨rfl, ρ, hA9, hR9, fr5.tr fr9⟩
  · rename_i hHeld
    have hQ : CL (((W4.setCell ⟨W0.heap.size, 0, none⟩ (.int .i64 (qo : Int))).setCell ⟨W0.heap.size, 1, none⟩ (.int .i64 (qd : Int))).setCell ⟨W0.heap.size, 2, none⟩ (.int .i64 (qn : Int))) W0.heap.size [.int .i64 (qo : Int), .int .i64 (qd : Int), .int .i64 (qn : Int)] := ((e4.set (o := 0) (by show 0 < 3; decide) (.int .i64 (qo : Int))).set (o := 1) (by show 1 < 3; decide) (.int .i64 (qd : Int))).set (o := 2) (by show 2 < 3; decide) (.int .i64 (qn : Int))
    have KX : Keeps (fun _ => False) W0 (((W4.setCell ⟨W0.heap.size, 0, none⟩ (.int .i64 (qo : Int))).setCell ⟨W0.heap.size, 1, none⟩ (.int .i64 (qd : Int))).setCell ⟨W0.heap.size, 2, none⟩ (.int .i64 (qn : Int))) := ((kk4.setCell (n0 _ (Nat.le_refl _)) _).setCell (n0 _ (Nat.le_refl _)) _).setCell (n0 _ (Nat.le_refl _)) _
    clear e0 e1 e2 ze0 ze1 ze2 e4 g1 g14 g17 hlk hlka HS hXa hXb hLa hLb hEa ka
    generalize ((W4.setCell ⟨W0.heap.size, 0, none⟩ (.int .i64 (qo : Int))).setCell ⟨W0.heap.size, 1, none⟩ (.int .i64 (qd : Int))).setCell ⟨W0.heap.size, 2, none⟩ (.int .i64 (qn : Int)) = W5 at *
    have hA5 := hA1.new KX
    have hR5 := hR1.new KX
    have fr5 := fr1.kN KX
    have hT := tell_ok hA5 hR5 hv (-1)
    have q2 := hQ.c 2 _ rfl
    clear hQ hHeld
    go_wp2_with fail
    refine hT.mono ?_
    rintro e W9 ⟨rfl, hA9, hR9, fr9⟩
    go_wp2_with fail
    (try simp only [Exit.then])
    refine bodyPost_ret (results_none rfl _ _ _) rfl ?_
    exact ⟨rfl, ρ, hA9, hR9, fr5.tr fr9⟩
  · rename_i hHeld
    have hQ : CL (((W4.setCell ⟨W0.heap.size, 0, none⟩ (.int .i64 (qo : Int))).setCell ⟨W0.heap.size, 1, none⟩ (.int .i64 (qd : Int))).setCell ⟨W0.heap.size, 2, none⟩ (.int .i64 (qn : Int))) W0.heap.size [.int .i64 (qo : Int), .int .i64 (qd : Int), .int .i64 (qn : Int)] := ((e4.set (o := 0) (by show 0 < 3; decide) (.int .i64 (qo : Int))).set (o := 1) (by show 1 < 3; decide) (.int .i64 (qd : Int))).set (o := 2) (by show 2 < 3; decide) (.int .i64 (qn : Int))
    have KX : Keeps (fun _ => False) W0 (((W4.setCell ⟨W0.heap.size, 0, none⟩ (.int .i64 (qo : Int))).setCell ⟨W0.heap.size, 1, none⟩ (.int .i64 (qd : Int))).setCell ⟨W0.heap.size, 2, none⟩ (.int .i64 (qn : Int))) := ((kk4.setCell (n0 _ (Nat.le_refl _)) _).setCell (n0 _ (Nat.le_refl _)) _).setCell (n0 _ (Nat.le_refl _)) _
    clear e0 e1 e2 ze0 ze1 ze2 e4 g1 g14 g17 hlk hlka HS hXa hXb hLa hLb hEa ka
    generalize ((W4.setCell ⟨W0.heap.size, 0, none⟩ (.int .i64 (qo : Int))).setCell ⟨W0.heap.size, 1, none⟩ (.int .i64 (qd : Int))).setCell ⟨W0.heap.size, 2, none⟩ (.int .i64 (qn : Int)) = W5 at *
    have hA5 := hA1.new KX
    have hR5 := hR1.new KX
    have fr5 := fr1.kN KX
    have hT := tell_ok hA5 hR5 hv (-1)
    have q2 := hQ.c 2 _ rfl
    clear hQ hHeld
    go_wp2_with fail
    refine hT.mono ?_
    rintro e W9 ⟨rfl, hA9, hR9, fr9⟩
    go_wp2_with fail
    (try simp only [Exit.then])
    refine bodyPost_ret (results_none rfl _ _ _) rfl ?_
    exact ⟨rfl, ρ, hA9, hR9, fr5.tr fr9⟩
set_option maxHeartbeats 800000 in
set_option maxRecDepth 1000000 in
theorem local_tab (ho : I64 x.object) (hfo : f x.object = none) {en : En} (hf : TB.fnd c.rs x.object = some en) {v : Nat} (hev : en.ver = (v : Int)) (hv : v < s.vals.length) :
    Goes 84 u j c ab ρ x x.thru n n f f s s m m { ({ x.blank with kind := 3, object := x.object } : Ro) with entry := (en.ord : Int), told := true, val := s.vl v } := by
  intro W rb hA hR
  have hq5 := hR.cl
  have r5 := hq5.c 5 _ rfl
  have zr5 := hq5.z 5 (by show 5 < 26; decide)
  have r7 := hq5.c 7 _ rfl
  have zr7 := hq5.z 7 (by show 7 < 26; decide)
  have hc := hA.cl
  have f17 := hc.c 17 _ rfl
  have hR0 : RX (W.setCell ⟨rb, 5, none⟩ (.int .i64 3)) ρ c ab rb { x.blank with kind := 3 } := hR.set1 (o := 5) (by decide) _ rfl
  have hR1 : RX ((W.setCell ⟨rb, 5, none⟩ (.int .i64 3)).setCell ⟨rb, 7, none⟩ (.int .i64 x.object)) ρ c ab rb { x.blank with kind := 3, object := x.object } := hR0.set1 (o := 7) (by decide) _ rfl
  have hA1 := (hA.setR hR 5 (.int .i64 3)).setR hR0 7 (.int .i64 x.object)
  have fr1 := ((Fr.refl (OwnR c ab rb) u j W ρ).setR 5 (.int .i64 3)).setR 7 (.int .i64 x.object)
  have hOw := owns_any hA1 ho
  rw [show (f x.object).isSome = false by rw [hfo]; rfl] at hOw
  have hc1 := hA1.cl
  have g17 := hc1.c 17 _ rfl
  have n1 := hR.n1
  have n1' := hR.n1.symm
  clear hq5 hc hc1
  go_enter Tryz.func84, Tryz.ntmps84
  go_wp2_with fail
  clear r5 zr5 r7 zr7 f17 hR0
  generalize (W.setCell ⟨rb, 5, none⟩ (.int .i64 3)).setCell ⟨rb, 7, none⟩ (.int .i64 x.object) = W1 at *
  refine hOw.mono ?_
  rintro e W0 ⟨rfl, rfl⟩
  clear hOw g17
  go_wp2_with fail
  have ka : Keeps (fun _ => False) W0 (W0.alloc (.cells #[.int .i64 0, .int .i64 0, .int .i64 0] 141)).drew := ((Keeps.refl _ W0).alloc _).drew
  have hEa : CL (W0.alloc (.cells #[.int .i64 0, .int .i64 0, .int .i64 0] 141)).drew W0.heap.size [.int .i64 0, .int .i64 0, .int .i64 0] := (CL.made W0 [.int .i64 0, .int .i64 0, .int .i64 0] _).drew
  have hXa := hA1.new ka
  have hXb := hA1.new (Keeps.refl _ W0).drew
  have lta : ab < W0.heap.size := hA1.alt
  have na : ¬ ab = W0.heap.size := by omega
  have na2 : ¬ W0.heap.size = ab := by omega
  have rz : ρ W0.heap.size = 0 := hA1.st.bnd _ (Nat.le_refl _)
  have nq : ¬ c.Q W0.heap.size := fun e => by have := hA1.qlt e; omega
  have hcb := hXb.cl
  have g17 := hcb.c 17 _ rfl
  have hF := fun (W : World) (hW : CT W c ab x) => TB.find_any hW.tv ho
  rw [hf] at hF
  simp only [TB.evo, TB.erz, TB.ev] at hF
  have hFa := hF _ hXa.ct
  have hFb := hF _ hXb.ct
  have HEV : Hid (en.ver = (v : Int)) := hev
  have HS : ∀ W', Keeps (fun _ => False) W0 W' → W'.cell? ⟨ab, 17, none⟩ = some (.int .i64 x.object) := fun W' k => by
    have hc9 := (hA1.new k).cl
    exact hc9.c 17 _ rfl
  have n0 : ∀ B, W0.heap.size ≤ B → (B < W0.heap.size → False) := fun B h e => absurd e (Nat.not_lt.2 h)
  clear hcb hfo hF hf hev
  go_region_held3 (fun w' => w'.cell? ⟨ab, 17, none⟩ = some (.int .i64 x.object)) (first | exact HS _ (Keeps.refl _ W0).drew | exact HS _ ka | exact HS _ kk4 | exact HS _ (kk4.alloc _) | exact HS _ (((kk4.setCell (n0 _ (Nat.le_refl _)) _).setCell (n0 _ (Nat.le_refl _)) _).setCell (n0 _ (Nat.le_refl _)) _)) (first | (go_at_call 83; (with_reducible refine hFa.mono ?_); rintro e W4 ⟨rfl, k4⟩; have kk4 := ka.trans k4; have e4 := hEa.keep (by show 0 < 3; decide) k4 (fun e => e); have e0 := e4.c 0 _ rfl; have e1 := e4.c 1 _ rfl; have e2 := e4.c 2 _ rfl; have ze0 := e4.z 0 (by show 0 < 3; decide); have ze1 := e4.z 1 (by show 1 < 3; decide); have ze2 := e4.z 2 (by show 2 < 3; decide)) | (go_at_call 83; (with_reducible refine hFb.mono ?_); rintro e W4 ⟨rfl, k4⟩; have kk4 := (Keeps.refl (fun _ => False) W0).drew.trans k4))
  · rename_i hHeld
    have hQ : CL (W4.alloc (.cells #[.int .i64 en.ob, .int .i64 en.ver, .int .i64 (en.ord : Int)] 141)) W4.heap.size [.int .i64 en.ob, .int .i64 en.ver, .int .i64 (en.ord : Int)] := CL.made W4 [.int .i64 en.ob, .int .i64 en.ver, .int .i64 (en.ord : Int)] 141
    have KX : Keeps (fun _ => False) W0 (W4.alloc (.cells #[.int .i64 en.ob, .int .i64 en.ver, .int .i64 (en.ord : Int)] 141)) := kk4.alloc _
    clear g17 HS hXa hXb hFa hFb hEa ka
    generalize W4.alloc (.cells #[.int .i64 en.ob, .int .i64 en.ver, .int .i64 (en.ord : Int)] 141) = W5 at *
    have hA5 := hA1.new KX
    have hR5 := hR1.new KX
    have fr5 := fr1.kN KX
    have hT := tell_ok hA5 hR5 hv (en.ord : Int)
    rw [← HEV.out] at hT
    have q1 := hQ.c 1 _ rfl
    have q2 := hQ.c 2 _ rfl
    clear hQ hHeld
    go_wp2_with fail
    refine hT.mono ?_
    rintro e W9 ⟨rfl, hA9, hR9, fr9⟩
    go_wp2_with fail
    go_end0
    exact ⟨rfl, ρ, hA9, hR9, fr5.tr fr9⟩
  · rename_i hHeld
    have hQ : CL (((W4.setCell ⟨W0.heap.size, 0, none⟩ (.int .i64 en.ob)).setCell ⟨W0.heap.size, 1, none⟩ (.int .i64 en.ver)).setCell ⟨W0.heap.size, 2, none⟩ (.int .i64 (en.ord : Int))) W0.heap.size [.int .i64 en.ob, .int .i64 en.ver, .int .i64 (en.ord : Int)] := ((e4.set (o := 0) (by show 0 < 3; decide) (.int .i64 en.ob)).set (o := 1) (by show 1 < 3; decide) (.int .i64 en.ver)).set (o := 2) (by show 2 < 3; decide) (.int .i64 (en.ord : Int))
    have KX : Keeps (fun _ => False) W0 (((W4.setCell ⟨W0.heap.size, 0, none⟩ (.int .i64 en.ob)).setCell ⟨W0.heap.size, 1, none⟩ (.int .i64 en.ver)).setCell ⟨W0.heap.size, 2, none⟩ (.int .i64 (en.ord : Int))) := ((kk4.setCell (n0 _ (Nat.le_refl _)) _).setCell (n0 _ (Nat.le_refl _)) _).setCell (n0 _ (Nat.le_refl _)) _
    clear e0 e1 e2 ze0 ze1 ze2 e4 g17 HS hXa hXb hFa hFb hEa ka
    generalize ((W4.setCell ⟨W0.heap.size, 0, none⟩ (.int .i64 en.ob)).setCell ⟨W0.heap.size, 1, none⟩ (.int .i64 en.ver)).setCell ⟨W0.heap.size, 2, none⟩ (.int .i64 (en.ord : Int)) = W5 at *
    have hA5 := hA1.new KX
    have hR5 := hR1.new KX
    have fr5 := fr1.kN KX
    have hT := tell_ok hA5 hR5 hv (en.ord : Int)
    rw [← HEV.out] at hT
    have q1 := hQ.c 1 _ rfl
    have q2 := hQ.c 2 _ rfl
    clear hQ hHeld
    go_wp2_with fail
    refine hT.mono ?_
    rintro e W9 ⟨rfl, hA9, hR9, fr9⟩
    go_wp2_with fail
    go_end0
    exact ⟨rfl, ρ, hA9, hR9, fr5.tr fr9⟩
end
end Go.Proofs.YtgjndhbfjofkeaaGreatDoor

