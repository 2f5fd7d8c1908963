import Derived.Test.YtehblpbefkopbaaGreatDoorXbI
namespace Go.Proofs.YtehblpbefkopbaaGreatDoor
open Go.RowKit Go.ChangeShapes Go.WideShapes Go.ChangeAt Go.Deep
attribute [local go_sem] Oper.semAt_some run_store_nf run_store_f
theorem results_cell2y {fn : Func} {p q : Tmp} {ty ty2 : TypeId} (h : fn.results = #[.cell p ty, .cell q ty2]) (tmps : Array Value) (P : Program) (w : World) {a b : Addr} {v1 v2 : Value}
    (ha : tmps[p]?.getD undef = .pointer (some a)) (hb : tmps[q]?.getD undef = .pointer (some b)) (h1 : (loadVar ty a).run P w = .ok v1 w) (h2 : (loadVar ty2 b).run P w = .ok v2 w) : (results fn tmps).run P w = .ok (.tuple #[v1, v2]) w := by
  simp only [results, h]
  simp [Sem.run_bind, Result.andThen, asAddr, ha, hb, h1, h2]
set_option maxHeartbeats 800000 in
set_option maxRecDepth 1000000 in
theorem pcatch_idle (p q : Addr) (w : World) :
    CallsD Tryz.prog 20 #[.pointer (some p), .pointer (some q)] .returning w fun e u' w' => e = .returned (.tuple #[]) ∧ u' = .returning ∧ w' = w := by
  refine callsD_of_wpS Tryz.func20 rfl fun c₀ cs hu => ?_
  apply wpS_seq
  apply wpS_region
  simp [wpOpsS, go_sem, recoverD, hu, Tryz.ntmps20, Exit.thenS]
  apply wpS_seq
  apply wpS_region
  simp [wpOpsS, go_sem, Exit.thenS]
  refine wpS_cond (t := false) (by simp [Act.eval, Array.replicate]) ?_
  simp only [Bool.false_eq_true, if_false]
  refine wpS_of_wp (wp_skip ?_)
  cases c₀
  simp_all [bodyPostS, results, Tryz.results20]
/-- What Parse comes to. -/
def PrsE (a b c : Int) (w : World) (e : Ending) (w' : World) : Prop := e = .returned (.tuple #[.slice none 0 0, .agg #[.int .i64 a, .int .i64 b, .int .i64 c]]) ∧ Keeps (fun _ => False) w w'
set_option maxHeartbeats 1000000 in
set_option maxRecDepth 1000000 in
theorem parse_long {w : World} {T : Bs} (hT : 32768 < T.length) : Calls Tryz.prog 13 #[.string (bs T)] w (fun e w' => PrsE 230 0 0 w e w') := by
  have hmf : ∀ (fn : Fn) (first cap : Array Value) (w : World), (Instr.makeFunc fn first cap).run Tryz.prog w = .ok (.func fn first cap) w := fun _ _ _ _ => rfl
  obtain ⟨w0, hw0⟩ : ∃ w0, w0 = (w.alloc (.cells #[.slice none 0 0] 25)).alloc (.cells #[.int .i64 0, .int .i64 0, .int .i64 0] 51) := ⟨_, rfl⟩
  have k0 : Keeps (fun _ => False) w w0 := by rw [hw0]; exact ks2 w _ _
  have c0 : CL w0 w.heap.size [.slice none 0 0] := by rw [hw0]; exact made1 w [.slice none 0 0] 25 _ (by show 0 < 1; decide)
  have c1 : CL w0 (w.heap.size + 1) [.int .i64 0, .int .i64 0, .int .i64 0] := by rw [hw0]; exact made2 w [.int .i64 0, .int .i64 0, .int .i64 0] 51 _
  have hz0 : w0.heap.size = w.heap.size + 1 + 1 := by rw [hw0]; simp
  have n01 : w.heap.size + 1 ≠ w.heap.size := by omega
  have n10 : w.heap.size ≠ w.heap.size + 1 := by omega
  have hbz : (bs T).size = T.length := bs_size T
  have HW : Hid (_ = _) := hw0
  clear hw0
  have hle : decide ((32768 : Int) < ((bs T).size : Int)) = true := by rw [hbz]; simp; omega
  clear hbz
  generalize bs T = TT at *
  go_enter_defers Tryz.func13, Tryz.ntmps13
  refine wp_seq_k (fun KK hKK => ?_)
  have hKH : Hid _ := hKK
  clear hKK
  go_wp2_with fail
  refine hKH.out _ _ ?_
  clear hKH KK
  rw [← HW.out]
  clear HW
  have y0 := c0.c 0 _ rfl
  have yz := c0.z 0 (by show 0 < 1; decide)
  have f0 := c1.c 0 _ rfl
  have f1 := c1.c 1 _ rfl
  have f2 := c1.c 2 _ rfl
  have g0 := c1.z 0 (by show 0 < 3; decide)
  have g1 := c1.z 1 (by show 1 < 3; decide)
  have g2 := c1.z 2 (by show 2 < 3; decide)
  go_wp2_with fail
  have e0 : CL ((((w0.setCell ⟨w.heap.size, 0, none⟩ (.slice none 0 0)).setCell ⟨w.heap.size + 1, 0, none⟩ (.int .i64 230)).setCell ⟨w.heap.size + 1, 1, none⟩ (.int .i64 0)).setCell ⟨w.heap.size + 1, 2, none⟩ (.int .i64 0)) w.heap.size [(.slice none 0 0)] := (((c0.set (o := 0) (by show 0 < 1; decide) (.slice none 0 0)).other (p := ⟨w.heap.size + 1, 0, none⟩) n01 _).other (p := ⟨w.heap.size + 1, 1, none⟩) n01 _).other (p := ⟨w.heap.size + 1, 2, none⟩) n01 _
  have e1 : CL ((((w0.setCell ⟨w.heap.size, 0, none⟩ (.slice none 0 0)).setCell ⟨w.heap.size + 1, 0, none⟩ (.int .i64 230)).setCell ⟨w.heap.size + 1, 1, none⟩ (.int .i64 0)).setCell ⟨w.heap.size + 1, 2, none⟩ (.int .i64 0)) (w.heap.size + 1) [.int .i64 230, .int .i64 0, .int .i64 0] := (((c1.other (p := ⟨w.heap.size, 0, none⟩) n10 (.slice none 0 0)).set (o := 0) (by show 0 < 3; decide) (.int .i64 230)).set (o := 1) (by show 1 < 3; decide) (.int .i64 0)).set (o := 2) (by show 2 < 3; decide) (.int .i64 0)
  have kk : Keeps (fun k => k = w.heap.size ∨ k = w.heap.size + 1) w0 ((((w0.setCell ⟨w.heap.size, 0, none⟩ (.slice none 0 0)).setCell ⟨w.heap.size + 1, 0, none⟩ (.int .i64 230)).setCell ⟨w.heap.size + 1, 1, none⟩ (.int .i64 0)).setCell ⟨w.heap.size + 1, 2, none⟩ (.int .i64 0)) := ((((Keeps.refl _ w0).setCell (p := ⟨w.heap.size, 0, none⟩) (fun _ => .inl rfl) _).setCell (p := ⟨w.heap.size + 1, 0, none⟩) (fun _ => .inr rfl) _).setCell (p := ⟨w.heap.size + 1, 1, none⟩) (fun _ => .inr rfl) _).setCell (p := ⟨w.heap.size + 1, 2, none⟩) (fun _ => .inr rfl) _
  generalize ((((w0.setCell ⟨w.heap.size, 0, none⟩ (.slice none 0 0)).setCell ⟨w.heap.size + 1, 0, none⟩ (.int .i64 230)).setCell ⟨w.heap.size + 1, 1, none⟩ (.int .i64 0)).setCell ⟨w.heap.size + 1, 2, none⟩ (.int .i64 0)) = W6 at *
  have K6 : Keeps (fun _ => False) w W6 := k0.trans' kk (fun _ _ e => e) (fun i hi e => by omega)
  have x0 := e0.c 0 _ rfl
  have u0 := e1.c 0 _ rfl
  have u1 := e1.c 1 _ rfl
  have u2 := e1.c 2 _ rfl
  refine ⟨.tuple #[.slice none 0 0, .agg #[.int .i64 230, .int .i64 0, .int .i64 0]], ?_, rfl, K6⟩
  refine results_cell2y Tryz.results13 _ _ _ (a := ⟨w.heap.size, 0, none⟩) (b := ⟨w.heap.size + 1, 0, none⟩) rfl rfl ?_ ?_
  · go_simp
  · go_simp
set_option maxHeartbeats 1000000 in
set_option maxRecDepth 1000000 in
theorem parse_first {w : World} {T : Bs} (hG : SG w) (h12 : 12 ≤ w.heap.size) (hT : T.length ≤ 32768) (hb : badB (spk false T) = true) : Calls Tryz.prog 13 #[.string (bs T)] w (fun e w' => PrsE 231 (lnO (T.take (T.length - (spk false T).length)) : Int) (colO (T.take (T.length - (spk false T).length)) : Int) w e w') := by
  have hmf : ∀ (fn : Fn) (first cap : Array Value) (w : World), (Instr.makeFunc fn first cap).run Tryz.prog w = .ok (.func fn first cap) w := fun _ _ _ _ => rfl
  obtain ⟨w0, hw0⟩ : ∃ w0, w0 = (w.alloc (.cells #[.slice none 0 0] 25)).alloc (.cells #[.int .i64 0, .int .i64 0, .int .i64 0] 51) := ⟨_, rfl⟩
  have k0 : Keeps (fun _ => False) w w0 := by rw [hw0]; exact ks2 w _ _
  have c0 : CL w0 w.heap.size [.slice none 0 0] := by rw [hw0]; exact made1 w [.slice none 0 0] 25 _ (by show 0 < 1; decide)
  have c1 : CL w0 (w.heap.size + 1) [.int .i64 0, .int .i64 0, .int .i64 0] := by rw [hw0]; exact made2 w [.int .i64 0, .int .i64 0, .int .i64 0] 51 _
  have hz0 : w0.heap.size = w.heap.size + 1 + 1 := by rw [hw0]; simp
  have n01 : w.heap.size + 1 ≠ w.heap.size := by omega
  have n10 : w.heap.size ≠ w.heap.size + 1 := by omega
  have hbz : (bs T).size = T.length := bs_size T
  have HW : Hid (_ = _) := hw0
  clear hw0
  have hle : decide ((32768 : Int) < ((bs T).size : Int)) = false := by rw [hbz]; simp; omega
  have hN := (newReader_any (w := w0) (hG.keep k0 (fun _ _ e => e)) (by omega) hT).mono fun e w' h => h.2 hb
  clear hbz hG
  generalize bs T = TT at *
  go_enter_defers Tryz.func13, Tryz.ntmps13
  go_wp2_with fail
  rw [← HW.out]
  clear HW
  refine hN.mono ?_
  clear hN
  rintro e w5 ⟨rfl, k5⟩
  have d0 := c0.keep (by show 0 < 1; decide) k5 (fun e => e)
  have d1 := c1.keep (by show 0 < 3; decide) k5 (fun e => e)
  have K5 := k0.trans k5
  clear c0 c1 k5
  show bodyPostD Tryz.prog Tryz.f13 _ (Exit.panic _) _ w5
  refine leaves_cons (f := 20) (args := #[.pointer (some ⟨w.heap.size, 0, none⟩), .pointer (some ⟨w.heap.size + 1, 0, none⟩)]) (by simp) (by simp [go_sem]) ?_
  refine (pcatch_fault [] _ _ _ d0 d1 n10).mono ?_
  rintro e u' w6 ⟨rfl, rfl, e0, e1, k6⟩
  have K6 : Keeps (fun _ => False) w w6 := K5.trans' k6 (fun _ _ e => e) (fun i hi e => by omega)
  have x0 := e0.c 0 _ rfl
  have u0 := e1.c 0 _ rfl
  have u1 := e1.c 1 _ rfl
  have u2 := e1.c 2 _ rfl
  refine ⟨.tuple #[.slice none 0 0, .agg #[.int .i64 231, .int .i64 _, .int .i64 _]], ?_, rfl, K6⟩
  refine results_cell2y Tryz.results13 _ _ _ (a := ⟨w.heap.size, 0, none⟩) (b := ⟨w.heap.size + 1, 0, none⟩) rfl rfl ?_ ?_
  · go_simp
  · go_simp
set_option maxHeartbeats 1000000 in
set_option maxRecDepth 1000000 in
theorem parse_no {w : World} {T E : Bs} (hG : SG w) (h12 : 12 ≤ w.heap.size) (hT : T.length ≤ 32768) (hb : badB (spk false T) = false) {F : Nat} (hF : 327685 ≤ F) (hs : sts F [] (spk false T) = .error E) : Calls Tryz.prog 13 #[.string (bs T)] w (fun e w' => PrsE 231 (lnO (T.take (T.length - E.length)) : Int) (colO (T.take (T.length - E.length)) : Int) w e w') := by
  have hmf : ∀ (fn : Fn) (first cap : Array Value) (w : World), (Instr.makeFunc fn first cap).run Tryz.prog w = .ok (.func fn first cap) w := fun _ _ _ _ => rfl
  obtain ⟨w0, hw0⟩ : ∃ w0, w0 = (w.alloc (.cells #[.slice none 0 0] 25)).alloc (.cells #[.int .i64 0, .int .i64 0, .int .i64 0] 51) := ⟨_, rfl⟩
  have k0 : Keeps (fun _ => False) w w0 := by rw [hw0]; exact ks2 w _ _
  have c0 : CL w0 w.heap.size [.slice none 0 0] := by rw [hw0]; exact made1 w [.slice none 0 0] 25 _ (by show 0 < 1; decide)
  have c1 : CL w0 (w.heap.size + 1) [.int .i64 0, .int .i64 0, .int .i64 0] := by rw [hw0]; exact made2 w [.int .i64 0, .int .i64 0, .int .i64 0] 51 _
  have hz0 : w0.heap.size = w.heap.size + 1 + 1 := by rw [hw0]; simp
  have n01 : w.heap.size + 1 ≠ w.heap.size := by omega
  have n10 : w.heap.size ≠ w.heap.size + 1 := by omega
  have hbz : (bs T).size = T.length := bs_size T
  have HW : Hid (_ = _) := hw0
  clear hw0
  have hle : decide ((32768 : Int) < ((bs T).size : Int)) = false := by rw [hbz]; simp; omega
  have hN := (newReader_any (w := w0) (hG.keep k0 (fun _ _ e => e)) (by omega) hT).mono fun e w' h => h.1 hb
  have hSl := (spk_suf false T).length_le
  clear hbz
  generalize hS : spk false T = S at *
  generalize bs T = TT at *
  have HS : Hid _ := hs
  have HF : Hid _ := hF
  have HL : Hid _ := hSl
  have HT : Hid _ := hT
  clear hs hF hSl hT hb
  go_enter_defers Tryz.func13, Tryz.ntmps13
  go_wp2_with fail
  rw [← HW.out]
  clear HW
  refine hN.mono ?_
  clear hN
  rintro e w5 ⟨rfl, h5, k5⟩
  have hs := HS.out
  have hF := HF.out
  have hSl := HL.out
  have hT := HT.out
  have hSt := (cs_all F).sts w5 w0.heap.size T S [] h5 (by omega)
  rw [hs] at hSt
  have hSt : Calls Tryz.prog 23 #[pR w0.heap.size, .string (bs [])] w5 (fun e w' => e = panT T E ∧ Keeps (fun k => k = w0.heap.size) w5 w') := hSt
  clear hG hs
  rw [hz0] at hSt
  go_wp2_with fail
  refine hSt.mono ?_
  clear hSt
  rintro e w7 ⟨rfl, k7⟩
  have k5 : Keeps (fun _ => False) w0 w7 := k5.trans' k7 (fun _ _ e => e) (fun i hi e => by omega)
  have d0 := c0.keep (by show 0 < 1; decide) k5 (fun e => e)
  have d1 := c1.keep (by show 0 < 3; decide) k5 (fun e => e)
  have K5 := k0.trans k5
  clear c0 c1 k5
  show bodyPostD Tryz.prog Tryz.f13 _ (Exit.panic _) _ w7
  refine leaves_cons (f := 20) (args := #[.pointer (some ⟨w.heap.size, 0, none⟩), .pointer (some ⟨w.heap.size + 1, 0, none⟩)]) (by simp) (by simp [go_sem]) ?_
  refine (pcatch_fault [] _ _ _ d0 d1 n10).mono ?_
  rintro e u' w6 ⟨rfl, rfl, e0, e1, k6⟩
  have K6 : Keeps (fun _ => False) w w6 := K5.trans' k6 (fun _ _ e => e) (fun i hi e => by omega)
  have x0 := e0.c 0 _ rfl
  have u0 := e1.c 0 _ rfl
  have u1 := e1.c 1 _ rfl
  have u2 := e1.c 2 _ rfl
  refine ⟨.tuple #[.slice none 0 0, .agg #[.int .i64 231, .int .i64 _, .int .i64 _]], ?_, rfl, K6⟩
  refine results_cell2y Tryz.results13 _ _ _ (a := ⟨w.heap.size, 0, none⟩) (b := ⟨w.heap.size + 1, 0, none⟩) rfl rfl ?_ ?_
  · go_simp
  · go_simp
set_option maxHeartbeats 1000000 in
set_option maxRecDepth 1000000 in
theorem parse_chk {w : World} {T R1 : Bs} {l : List St} (hG : SG w) (h12 : 12 ≤ w.heap.size) (hT : T.length ≤ 32768) (hb : badB (spk false T) = false) {F : Nat} (hF : 327685 ≤ F) (hs : sts F [] (spk false T) = .ok (l, R1)) (hc : chk l ≠ 0) : Calls Tryz.prog 13 #[.string (bs T)] w (fun e w' => PrsE (chk l) 0 0 w e w') := by
  have hmf : ∀ (fn : Fn) (first cap : Array Value) (w : World), (Instr.makeFunc fn first cap).run Tryz.prog w = .ok (.func fn first cap) w := fun _ _ _ _ => rfl
  obtain ⟨w0, hw0⟩ : ∃ w0, w0 = (w.alloc (.cells #[.slice none 0 0] 25)).alloc (.cells #[.int .i64 0, .int .i64 0, .int .i64 0] 51) := ⟨_, rfl⟩
  have k0 : Keeps (fun _ => False) w w0 := by rw [hw0]; exact ks2 w _ _
  have c0 : CL w0 w.heap.size [.slice none 0 0] := by rw [hw0]; exact made1 w [.slice none 0 0] 25 _ (by show 0 < 1; decide)
  have c1 : CL w0 (w.heap.size + 1) [.int .i64 0, .int .i64 0, .int .i64 0] := by rw [hw0]; exact made2 w [.int .i64 0, .int .i64 0, .int .i64 0] 51 _
  have hz0 : w0.heap.size = w.heap.size + 1 + 1 := by rw [hw0]; simp
  have n01 : w.heap.size + 1 ≠ w.heap.size := by omega
  have n10 : w.heap.size ≠ w.heap.size + 1 := by omega
  have hbz : (bs T).size = T.length := bs_size T
  have HW : Hid (_ = _) := hw0
  clear hw0
  have hle : decide ((32768 : Int) < ((bs T).size : Int)) = false := by rw [hbz]; simp; omega
  have hN := (newReader_any (w := w0) (hG.keep k0 (fun _ _ e => e)) (by omega) hT).mono fun e w' h => h.1 hb
  have hSl := (spk_suf false T).length_le
  clear hbz
  generalize hS : spk false T = S at *
  generalize bs T = TT at *
  have HS : Hid _ := hs
  have HF : Hid _ := hF
  have HL : Hid _ := hSl
  have HT : Hid _ := hT
  clear hs hF hSl hT hb
  go_enter_defers Tryz.func13, Tryz.ntmps13
  go_wp2_with fail
  rw [← HW.out]
  clear HW
  refine hN.mono ?_
  clear hN
  rintro e w5 ⟨rfl, h5, k5⟩
  have hs := HS.out
  have hF := HF.out
  have hSl := HL.out
  have hT := HT.out
  have hSt := (cs_all F).sts w5 w0.heap.size T S [] h5 (by omega)
  rw [hs] at hSt
  have hSt : Calls Tryz.prog 23 #[pR w0.heap.size, .string (bs [])] w5 (fun e w' => ∃ (p : Option Addr) (m c : Nat) (xs : List Value), e = .returned (.slice p m c) ∧ OwnP w' (fun g => w5.heap.size ≤ g) 37 12 (.slice p m c) l.length xs ∧ SL w' (fun g => w5.heap.size ≤ g) 35 37 l xs ∧ RdM w' w0.heap.size T R1 ∧ Keeps (fun k => k = w0.heap.size) w5 w') := hSt
  have hbg : bgSL l ≤ 549755813888 := by have := (rs_bg F).1 _ _ _ _ hs; omega
  clear hs
  have z5 := k5.size
  rw [hz0] at hSt
  go_wp2_with fail
  refine hSt.mono ?_
  clear hSt
  rintro e w7 ⟨p, m, c, xs, rfl, ho, hl, h7, k7⟩
  obtain ⟨p', c', ee, -⟩ := own_slice ho.1
  injection ee with e1 e2 e3
  subst e1 e2 e3
  clear h7 h5
  have K7 : Keeps (fun _ => False) w0 w7 := k5.trans' k7 (fun _ _ e => e) (fun i hi e => by omega)
  have d0 := c0.keep (by show 0 < 1; decide) K7 (fun e => e)
  have d1 := c1.keep (by show 0 < 3; decide) K7 (fun e => e)
  have K07 := k0.trans K7
  have z7 := k7.size
  clear k5 k7 c0 c1
  have y0 := d0.c 0 _ rfl
  have yz := d0.z 0 (by show 0 < 1; decide)
  have hP : ∀ g, w5.heap.size ≤ g → w.heap.size + 1 < g := fun g hg => by omega
  have ho := ho.mono hP
  have hl := hl.mono hP
  have kA : Keeps (fun k => k = w.heap.size) w7 (w7.setCell ⟨w.heap.size, 0, none⟩ (.slice p l.length c)) := (Keeps.refl (fun k => k = w.heap.size) w7).setCell (p := ⟨w.heap.size, 0, none⟩) (fun _ => rfl) _
  have stA : Stay (fun g => w.heap.size + 1 < g) w7 (w7.setCell ⟨w.heap.size, 0, none⟩ (.slice p l.length c)) := kA.stay (fun i hi _ e => by omega)
  have ho8 := ho.stay stA
  have hl8 := hl.stay stA
  have d08 := d0.set (o := 0) (by show 0 < 1; decide) (.slice p l.length c)
  have d18 := d1.other (p := ⟨w.heap.size, 0, none⟩) n10 (.slice p l.length c)
  have hG8 := (hG.keep K07 (fun _ _ e => e)).keep kA (fun i hi e => by omega)
  have z8 : (w7.setCell ⟨w.heap.size, 0, none⟩ (.slice p l.length c)).heap.size = w7.heap.size := by simp
  generalize hw8 : w7.setCell ⟨w.heap.size, 0, none⟩ (.slice p l.length c) = w8 at *
  have HW8 : Hid (_ = _) := hw8
  clear hw8
  have hC := check_any hG8 (by omega) (ho8.lt.mono (fun g hg => hg.2)) (hl8.lt.mono (fun g hg => hg.2)) hbg
  clear ho hl stA hG8 hG d0 d1
  obtain ⟨C, hCe⟩ : ∃ C, C = chk l := ⟨_, rfl⟩
  rw [← hCe] at hC hc
  have HCE : Hid (_ = _) := hCe
  clear hCe
  have c1 : (C == 0) = false := beq_eq_false_iff_ne.2 hc
  have c2 : (C != 0) = true := by rw [bne, c1]; rfl
  clear hc
  go_wp2_with fail
  rw [HW8.out]
  refine hC.mono ?_
  clear hC
  rintro e w9 ⟨rfl, k9⟩
  have d09 : CL w9 w.heap.size [.slice p l.length c] := d08.keep (by show 0 < 1; decide) k9 (fun e => e)
  have d19 := d18.keep (by show 0 < 3; decide) k9 (fun e => e)
  have K9 : Keeps (fun _ => False) w w9 := (K07.trans' kA (fun _ _ e => e) (fun i hi e => by omega)).trans k9
  clear ho8 hl8 k9 kA d08 d18 HW8 hl ho
  have y0 := d09.c 0 _ rfl
  have yz := d09.z 0 (by show 0 < 1; decide)
  have f0 := d19.c 0 _ rfl
  have f1 := d19.c 1 _ rfl
  have f2 := d19.c 2 _ rfl
  have g0 := d19.z 0 (by show 0 < 3; decide)
  have g1 := d19.z 1 (by show 1 < 3; decide)
  have g2 := d19.z 2 (by show 2 < 3; decide)
  go_wp2_with fail
  have e0 : CL ((((w9.setCell ⟨w.heap.size, 0, none⟩ (.slice none 0 0)).setCell ⟨w.heap.size + 1, 0, none⟩ (.int .i64 C)).setCell ⟨w.heap.size + 1, 1, none⟩ (.int .i64 0)).setCell ⟨w.heap.size + 1, 2, none⟩ (.int .i64 0)) w.heap.size [(.slice none 0 0)] := (((d09.set (o := 0) (by show 0 < 1; decide) (.slice none 0 0)).other (p := ⟨w.heap.size + 1, 0, none⟩) n01 _).other (p := ⟨w.heap.size + 1, 1, none⟩) n01 _).other (p := ⟨w.heap.size + 1, 2, none⟩) n01 _
  have e1 : CL ((((w9.setCell ⟨w.heap.size, 0, none⟩ (.slice none 0 0)).setCell ⟨w.heap.size + 1, 0, none⟩ (.int .i64 C)).setCell ⟨w.heap.size + 1, 1, none⟩ (.int .i64 0)).setCell ⟨w.heap.size + 1, 2, none⟩ (.int .i64 0)) (w.heap.size + 1) [.int .i64 C, .int .i64 0, .int .i64 0] := (((d19.other (p := ⟨w.heap.size, 0, none⟩) n10 (.slice none 0 0)).set (o := 0) (by show 0 < 3; decide) (.int .i64 C)).set (o := 1) (by show 1 < 3; decide) (.int .i64 0)).set (o := 2) (by show 2 < 3; decide) (.int .i64 0)
  have kk : Keeps (fun k => k = w.heap.size ∨ k = w.heap.size + 1) w9 ((((w9.setCell ⟨w.heap.size, 0, none⟩ (.slice none 0 0)).setCell ⟨w.heap.size + 1, 0, none⟩ (.int .i64 C)).setCell ⟨w.heap.size + 1, 1, none⟩ (.int .i64 0)).setCell ⟨w.heap.size + 1, 2, none⟩ (.int .i64 0)) := ((((Keeps.refl _ w9).setCell (p := ⟨w.heap.size, 0, none⟩) (fun _ => .inl rfl) _).setCell (p := ⟨w.heap.size + 1, 0, none⟩) (fun _ => .inr rfl) _).setCell (p := ⟨w.heap.size + 1, 1, none⟩) (fun _ => .inr rfl) _).setCell (p := ⟨w.heap.size + 1, 2, none⟩) (fun _ => .inr rfl) _
  generalize ((((w9.setCell ⟨w.heap.size, 0, none⟩ (.slice none 0 0)).setCell ⟨w.heap.size + 1, 0, none⟩ (.int .i64 C)).setCell ⟨w.heap.size + 1, 1, none⟩ (.int .i64 0)).setCell ⟨w.heap.size + 1, 2, none⟩ (.int .i64 0)) = W6 at *
  have K6 : Keeps (fun _ => False) w W6 := K9.trans' kk (fun _ _ e => e) (fun i hi e => by omega)
  have x0 := e0.c 0 _ rfl
  have u0 := e1.c 0 _ rfl
  have u1 := e1.c 1 _ rfl
  have u2 := e1.c 2 _ rfl
  refine leaves_cons (f := 20) (args := #[.pointer (some ⟨w.heap.size, 0, none⟩), .pointer (some ⟨w.heap.size + 1, 0, none⟩)]) (by simp) (by simp [go_sem]) ?_
  refine (pcatch_idle _ _ _).mono ?_
  rintro e u' w'' ⟨rfl, rfl, e2⟩
  subst w''
  refine ⟨.tuple #[.slice none 0 0, .agg #[.int .i64 C, .int .i64 0, .int .i64 0]], ?_, by rw [HCE.out], K6⟩
  refine results_cell2y Tryz.results13 _ _ _ (a := ⟨w.heap.size, 0, none⟩) (b := ⟨w.heap.size + 1, 0, none⟩) rfl rfl ?_ ?_
  · go_simp
  · go_simp
/-- What Parse comes to, if all is well: the list's blocks are new. -/
def PrsO (l : List St) (w : World) (e : Ending) (w' : World) : Prop := ∃ (p : Option Addr) (c : Nat) (xs : List Value), e = .returned (.tuple #[.slice p l.length c, .agg #[.int .i64 0, .int .i64 0, .int .i64 0]]) ∧ OwnP w' (fun g => w.heap.size ≤ g) 37 12 (.slice p l.length c) l.length xs ∧ SL w' (fun g => w.heap.size ≤ g) 35 37 l xs ∧ Keeps (fun _ => False) w w'
set_option maxHeartbeats 1000000 in
set_option maxRecDepth 1000000 in
theorem parse_ok {w : World} {T R1 : Bs} {l : List St} (hG : SG w) (h12 : 12 ≤ w.heap.size) (hT : T.length ≤ 32768) (hb : badB (spk false T) = false) {F : Nat} (hF : 327685 ≤ F) (hs : sts F [] (spk false T) = .ok (l, R1)) (hc : chk l = 0) : Calls Tryz.prog 13 #[.string (bs T)] w (fun e w' => PrsO l w e w') := by
  have hmf : ∀ (fn : Fn) (first cap : Array Value) (w : World), (Instr.makeFunc fn first cap).run Tryz.prog w = .ok (.func fn first cap) w := fun _ _ _ _ => rfl
  obtain ⟨w0, hw0⟩ : ∃ w0, w0 = (w.alloc (.cells #[.slice none 0 0] 25)).alloc (.cells #[.int .i64 0, .int .i64 0, .int .i64 0] 51) := ⟨_, rfl⟩
  have k0 : Keeps (fun _ => False) w w0 := by rw [hw0]; exact ks2 w _ _
  have c0 : CL w0 w.heap.size [.slice none 0 0] := by rw [hw0]; exact made1 w [.slice none 0 0] 25 _ (by show 0 < 1; decide)
  have c1 : CL w0 (w.heap.size + 1) [.int .i64 0, .int .i64 0, .int .i64 0] := by rw [hw0]; exact made2 w [.int .i64 0, .int .i64 0, .int .i64 0] 51 _
  have hz0 : w0.heap.size = w.heap.size + 1 + 1 := by rw [hw0]; simp
  have n01 : w.heap.size + 1 ≠ w.heap.size := by omega
  have n10 : w.heap.size ≠ w.heap.size + 1 := by omega
  have hbz : (bs T).size = T.length := bs_size T
  have HW : Hid (_ = _) := hw0
  clear hw0
  have hle : decide ((32768 : Int) < ((bs T).size : Int)) = false := by rw [hbz]; simp; omega
  have hN := (newReader_any (w := w0) (hG.keep k0 (fun _ _ e => e)) (by omega) hT).mono fun e w' h => h.1 hb
  have hSl := (spk_suf false T).length_le
  clear hbz
  generalize hS : spk false T = S at *
  generalize bs T = TT at *
  have HS : Hid _ := hs
  have HF : Hid _ := hF
  have HL : Hid _ := hSl
  have HT : Hid _ := hT
  clear hs hF hSl hT hb
  go_enter_defers Tryz.func13, Tryz.ntmps13
  go_wp2_with fail
  rw [← HW.out]
  clear HW
  refine hN.mono ?_
  clear hN
  rintro e w5 ⟨rfl, h5, k5⟩
  have hs := HS.out
  have hF := HF.out
  have hSl := HL.out
  have hT := HT.out
  have hSt := (cs_all F).sts w5 w0.heap.size T S [] h5 (by omega)
  rw [hs] at hSt
  have hSt : Calls Tryz.prog 23 #[pR w0.heap.size, .string (bs [])] w5 (fun e w' => ∃ (p : Option Addr) (m c : Nat) (xs : List Value), e = .returned (.slice p m c) ∧ OwnP w' (fun g => w5.heap.size ≤ g) 37 12 (.slice p m c) l.length xs ∧ SL w' (fun g => w5.heap.size ≤ g) 35 37 l xs ∧ RdM w' w0.heap.size T R1 ∧ Keeps (fun k => k = w0.heap.size) w5 w') := hSt
  have hbg : bgSL l ≤ 549755813888 := by have := (rs_bg F).1 _ _ _ _ hs; omega
  clear hs
  have z5 := k5.size
  rw [hz0] at hSt
  go_wp2_with fail
  refine hSt.mono ?_
  clear hSt
  rintro e w7 ⟨p, m, c, xs, rfl, ho, hl, h7, k7⟩
  obtain ⟨p', c', ee, -⟩ := own_slice ho.1
  injection ee with e1 e2 e3
  subst e1 e2 e3
  clear h7 h5
  have K7 : Keeps (fun _ => False) w0 w7 := k5.trans' k7 (fun _ _ e => e) (fun i hi e => by omega)
  have d0 := c0.keep (by show 0 < 1; decide) K7 (fun e => e)
  have d1 := c1.keep (by show 0 < 3; decide) K7 (fun e => e)
  have K07 := k0.trans K7
  have z7 := k7.size
  clear k5 k7 c0 c1
  have y0 := d0.c 0 _ rfl
  have yz := d0.z 0 (by show 0 < 1; decide)
  have hP : ∀ g, w5.heap.size ≤ g → w.heap.size + 1 < g := fun g hg => by omega
  have ho := ho.mono hP
  have hl := hl.mono hP
  have kA : Keeps (fun k => k = w.heap.size) w7 (w7.setCell ⟨w.heap.size, 0, none⟩ (.slice p l.length c)) := (Keeps.refl (fun k => k = w.heap.size) w7).setCell (p := ⟨w.heap.size, 0, none⟩) (fun _ => rfl) _
  have stA : Stay (fun g => w.heap.size + 1 < g) w7 (w7.setCell ⟨w.heap.size, 0, none⟩ (.slice p l.length c)) := kA.stay (fun i hi _ e => by omega)
  have ho8 := ho.stay stA
  have hl8 := hl.stay stA
  have d08 := d0.set (o := 0) (by show 0 < 1; decide) (.slice p l.length c)
  have d18 := d1.other (p := ⟨w.heap.size, 0, none⟩) n10 (.slice p l.length c)
  have hG8 := (hG.keep K07 (fun _ _ e => e)).keep kA (fun i hi e => by omega)
  have z8 : (w7.setCell ⟨w.heap.size, 0, none⟩ (.slice p l.length c)).heap.size = w7.heap.size := by simp
  generalize hw8 : w7.setCell ⟨w.heap.size, 0, none⟩ (.slice p l.length c) = w8 at *
  have HW8 : Hid (_ = _) := hw8
  clear hw8
  have hC := check_any hG8 (by omega) (ho8.lt.mono (fun g hg => hg.2)) (hl8.lt.mono (fun g hg => hg.2)) hbg
  clear ho hl stA hG8 hG d0 d1
  rw [hc] at hC
  clear hc
  go_wp2_with fail
  rw [HW8.out]
  refine hC.mono ?_
  clear hC
  rintro e w9 ⟨rfl, k9⟩
  have d09 : CL w9 w.heap.size [.slice p l.length c] := d08.keep (by show 0 < 1; decide) k9 (fun e => e)
  have d19 := d18.keep (by show 0 < 3; decide) k9 (fun e => e)
  have K9 : Keeps (fun _ => False) w w9 := (K07.trans' kA (fun _ _ e => e) (fun i hi e => by omega)).trans k9
  have st9 : Stay (fun g => w.heap.size + 1 < g) w8 w9 := k9.stay (fun _ _ _ e => e)
  have ho9 := ho8.stay st9
  have hl9 := hl8.stay st9
  clear ho8 hl8 k9 kA d08 d18 HW8 hl ho st9
  have y0 := d09.c 0 _ rfl
  have yz := d09.z 0 (by show 0 < 1; decide)
  have f0 := d19.c 0 _ rfl
  have f1 := d19.c 1 _ rfl
  have f2 := d19.c 2 _ rfl
  have g0 := d19.z 0 (by show 0 < 3; decide)
  have g1 := d19.z 1 (by show 1 < 3; decide)
  have g2 := d19.z 2 (by show 2 < 3; decide)
  go_wp2_with fail
  have e0 : CL ((((w9.setCell ⟨w.heap.size, 0, none⟩ (.slice p l.length c)).setCell ⟨w.heap.size + 1, 0, none⟩ (.int .i64 0)).setCell ⟨w.heap.size + 1, 1, none⟩ (.int .i64 0)).setCell ⟨w.heap.size + 1, 2, none⟩ (.int .i64 0)) w.heap.size [(.slice p l.length c)] := (((d09.set (o := 0) (by show 0 < 1; decide) (.slice p l.length c)).other (p := ⟨w.heap.size + 1, 0, none⟩) n01 _).other (p := ⟨w.heap.size + 1, 1, none⟩) n01 _).other (p := ⟨w.heap.size + 1, 2, none⟩) n01 _
  have e1 : CL ((((w9.setCell ⟨w.heap.size, 0, none⟩ (.slice p l.length c)).setCell ⟨w.heap.size + 1, 0, none⟩ (.int .i64 0)).setCell ⟨w.heap.size + 1, 1, none⟩ (.int .i64 0)).setCell ⟨w.heap.size + 1, 2, none⟩ (.int .i64 0)) (w.heap.size + 1) [.int .i64 0, .int .i64 0, .int .i64 0] := (((d19.other (p := ⟨w.heap.size, 0, none⟩) n10 (.slice p l.length c)).set (o := 0) (by show 0 < 3; decide) (.int .i64 0)).set (o := 1) (by show 1 < 3; decide) (.int .i64 0)).set (o := 2) (by show 2 < 3; decide) (.int .i64 0)
  have kk : Keeps (fun k => k = w.heap.size ∨ k = w.heap.size + 1) w9 ((((w9.setCell ⟨w.heap.size, 0, none⟩ (.slice p l.length c)).setCell ⟨w.heap.size + 1, 0, none⟩ (.int .i64 0)).setCell ⟨w.heap.size + 1, 1, none⟩ (.int .i64 0)).setCell ⟨w.heap.size + 1, 2, none⟩ (.int .i64 0)) := ((((Keeps.refl _ w9).setCell (p := ⟨w.heap.size, 0, none⟩) (fun _ => .inl rfl) _).setCell (p := ⟨w.heap.size + 1, 0, none⟩) (fun _ => .inr rfl) _).setCell (p := ⟨w.heap.size + 1, 1, none⟩) (fun _ => .inr rfl) _).setCell (p := ⟨w.heap.size + 1, 2, none⟩) (fun _ => .inr rfl) _
  generalize ((((w9.setCell ⟨w.heap.size, 0, none⟩ (.slice p l.length c)).setCell ⟨w.heap.size + 1, 0, none⟩ (.int .i64 0)).setCell ⟨w.heap.size + 1, 1, none⟩ (.int .i64 0)).setCell ⟨w.heap.size + 1, 2, none⟩ (.int .i64 0)) = W6 at *
  have K6 : Keeps (fun _ => False) w W6 := K9.trans' kk (fun _ _ e => e) (fun i hi e => by omega)
  have x0 := e0.c 0 _ rfl
  have u0 := e1.c 0 _ rfl
  have u1 := e1.c 1 _ rfl
  have u2 := e1.c 2 _ rfl
  have st6 : Stay (fun g => w.heap.size + 1 < g) w9 W6 := kk.stay (fun i hi _ e => by omega)
  refine leaves_cons (f := 20) (args := #[.pointer (some ⟨w.heap.size, 0, none⟩), .pointer (some ⟨w.heap.size + 1, 0, none⟩)]) (by simp) (by simp [go_sem]) ?_
  refine (pcatch_idle _ _ _).mono ?_
  rintro e u' w'' ⟨rfl, rfl, e2⟩
  subst w''
  refine ⟨.tuple #[.slice p l.length c, .agg #[.int .i64 0, .int .i64 0, .int .i64 0]], ?_, p, c, xs, rfl, (ho9.stay st6).mono (fun g hg => by omega), (hl9.stay st6).mono (fun g hg => by omega), K6⟩
  refine results_cell2y Tryz.results13 _ _ _ (a := ⟨w.heap.size, 0, none⟩) (b := ⟨w.heap.size + 1, 0, none⟩) rfl rfl ?_ ?_
  · go_simp
  · go_simp
end Go.Proofs.YtehblpbefkopbaaGreatDoor
