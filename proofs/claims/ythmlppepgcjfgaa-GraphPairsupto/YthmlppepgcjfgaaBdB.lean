import Derived.Test.YthmlppepgcjfgaaBdA
namespace Go.Proofs.Ythmlppepgcjfgaa
open Go.RowKit Go.Deep
attribute [local go_sem] Oper.semAt_some run_store_nf run_store_f
theorem ecl_app (l m : List Ed) : ecl (l ++ m) = ecl l ++ ecl m := by unfold ecl; rw [List.flatMap_append]
theorem ecl_one (x : Ed) : ecl [x] = x.cells := by simp [ecl]
theorem append_e {W : World} {base k : Nat} {v : Value} {l : List Ed} (hown : W.ownsRow base 34 4 v k (ecl l)) (hb : base ≤ W.heap.size) (hk : (k + 1) * 32 ≤ 140737488355328) (x : Ed) :
    ∃ v' w', (Builtin.append_ #[23, 23] 23 #[v, .slice (some ⟨W.heap.size, 0, none⟩) 1 1]).run Try.prog (W.alloc (.cells #[.int .i64 x.f, .int .i64 x.t, .int .i64 x.k, .int .i64 x.o] 34)) = .ok v' w' ∧ w'.ownsRow base 34 4 v' (k + 1) (ecl (l ++ [x])) ∧ Keeps (fun i => v.ownBlock = some i) W w' := by
  obtain ⟨v', w', hr, ho, kk, _⟩ := append_sz uE iE rfl (by decide) hown hb (by decide) hk x.cells rfl (fun u hu => by
    unfold Ed.cells at hu
    simp at hu
    rcases hu with rfl | rfl | rfl | rfl <;> rfl)
  refine ⟨v', w', hr, ?_, kk⟩
  rw [ecl_app, ecl_one]
  exact ho
set_option maxHeartbeats 1000000 in
set_option maxRecDepth 100000 in
theorem before_any (w : World) (p q : Ed) (R : Bool) (hR : R = decide (LtE p q)) : Calls Try.prog 23 #[.agg #[.int .i64 p.f, .int .i64 p.t, .int .i64 p.k, .int .i64 p.o], .agg #[.int .i64 q.f, .int .i64 q.t, .int .i64 q.k, .int .i64 q.o]] w fun e w' => e = .returned (.bool R) ∧ Keeps (fun _ => False) w w' := by
  have HR : Hid (R = decide (LtE p q)) := hR
  clear hR
  obtain ⟨pf, pt, pk, po⟩ := p
  obtain ⟨qf, qt, qk, qo⟩ := q
  simp only
  by_cases h1 : pf = qf
  · have d1 : (pf != qf) = false := by simp [h1]
    by_cases h2 : pt = qt
    · have d2 : (pt != qt) = false := by simp [h2]
      by_cases h3 : pk = qk
      · have d3 : (pk != qk) = false := by simp [h3]
        obtain rfl : R = decide (po < qo) := by rw [HR.out]; apply decide_eq_decide.2; unfold LtE; simp only; omega
        clear h1 h2 h3
        go_enter Try.func23, Try.ntmps23
        go_wp2_with fail
        go_ret
        exact ⟨rfl, ((Keeps.refl _ w).alloc _).alloc _⟩
      · have d3 : (pk != qk) = true := bne_iff_ne.2 h3
        obtain rfl : R = decide (pk < qk) := by rw [HR.out]; apply decide_eq_decide.2; unfold LtE; simp only; omega
        clear h1 h2 h3
        go_enter Try.func23, Try.ntmps23
        go_wp2_with fail
        go_ret
        exact ⟨rfl, ((Keeps.refl _ w).alloc _).alloc _⟩
    · have d2 : (pt != qt) = true := bne_iff_ne.2 h2
      obtain rfl : R = decide (pt < qt) := by rw [HR.out]; apply decide_eq_decide.2; unfold LtE; simp only; omega
      clear h1 h2
      go_enter Try.func23, Try.ntmps23
      go_wp2_with fail
      go_ret
      exact ⟨rfl, ((Keeps.refl _ w).alloc _).alloc _⟩
  · have d1 : (pf != qf) = true := bne_iff_ne.2 h1
    obtain rfl : R = decide (pf < qf) := by rw [HR.out]; apply decide_eq_decide.2; unfold LtE; simp only; omega
    clear h1
    go_enter Try.func23, Try.ntmps23
    go_wp2_with fail
    go_ret
    exact ⟨rfl, ((Keeps.refl _ w).alloc _).alloc _⟩
set_option maxHeartbeats 2000000 in
set_option maxRecDepth 100000 in
theorem rput_any {w : World} {a : Option Addr} {cap : Nat} {l : List Ed} (hl : EL w a l) (hn : l.length ≤ 4398046510000) (x : Ed) : Calls Try.prog 15 #[.slice a l.length cap, .agg #[.int .i64 x.f, .int .i64 x.t, .int .i64 x.k, .int .i64 x.o]] w fun e w' => ∃ v, e = .returned v ∧ w'.ownsRow w.heap.size 34 4 v (insE x l).length (ecl (insE x l)) ∧ Keeps (fun _ => False) w w' := by
  obtain ⟨w0, hw0⟩ : ∃ w0, w0 = w.alloc (.cells #[.int .i64 x.f, .int .i64 x.t, .int .i64 x.k, .int .i64 x.o] 34) := ⟨_, rfl⟩
  have k0 : Keeps (fun _ => False) w w0 := by rw [hw0]; exact (Keeps.refl _ w).alloc _
  have C0 : CL w0 w.heap.size x.cells := by rw [hw0]; exact CL.made w x.cells 34
  have HW0 : Hid (w0 = w.alloc (.cells #[.int .i64 x.f, .int .i64 x.t, .int .i64 x.k, .int .i64 x.o] 34)) := hw0
  have HX : Hid (∀ W, Keeps (fun _ => False) w0 W → W.cell? ⟨w.heap.size, 0, none⟩ = some (.int .i64 x.f) ∧ W.cell? ⟨w.heap.size, 1, none⟩ = some (.int .i64 x.t) ∧ W.cell? ⟨w.heap.size, 2, none⟩ = some (.int .i64 x.k) ∧ W.cell? ⟨w.heap.size, 3, none⟩ = some (.int .i64 x.o)) := fun W k => ⟨k.cell (C0.c 0 _ rfl) (fun e => e), k.cell (C0.c 1 _ rfl) (fun e => e), k.cell (C0.c 2 _ rfl) (fun e => e), k.cell (C0.c 3 _ rfl) (fun e => e)⟩
  have HL : Hid (EL w0 a l) := hl.keep k0
  have HE : Hid (∀ W v, W.ownsRow w0.heap.size 34 4 v (insE x l).length (ecl (insE x l)) → Keeps (fun _ => False) w0 W → ∃ v', Ending.returned v = .returned v' ∧ W.ownsRow w.heap.size 34 4 v' (insE x l).length (ecl (insE x l)) ∧ Keeps (fun _ => False) w W) := fun W v h k => ⟨v, rfl, owns_low h k0.size, k0.trans k⟩
  generalize hN : l.length = N at *
  have HN : Hid (l.length = N) := hN
  clear hN hl C0 k0 hw0
  have HBF : Hid (∀ (W : World) (p q : Ed) (R : Bool), R = decide (LtE p q) → Calls Try.prog 23 #[.agg #[.int .i64 p.f, .int .i64 p.t, .int .i64 p.k, .int .i64 p.o], .agg #[.int .i64 q.f, .int .i64 q.t, .int .i64 q.k, .int .i64 q.o]] W fun e w' => e = .returned (.bool R) ∧ Keeps (fun _ => False) W w') := fun W p q R h => before_any W p q R h
  go_enter Try.func15, Try.ntmps15
  refine wp_seq_k (fun KK hKK => ?_)
  have hKH : Hid _ := hKK
  clear hKK
  go_wp2_with fail
  refine hKH.out _ _ ?_
  clear hKH KK
  rw [← HW0.out]
  generalize hBX : w.heap.size = bx at *
  have HBX : Hid (w.heap.size = bx) := hBX
  clear hBX HW0
  go_wp2_with fail
  go_loopw [5, 6, 7] (fun ov bv iv Wr => ∃ (k : Nat) (out : List Ed) (done : Bool), iv = .int .i64 (k : Int) ∧ k ≤ N ∧ bv = .bool done ∧ InsI l x k out done ∧ Wr.ownsRow w0.heap.size 34 4 ov out.length (ecl out) ∧ Keeps (fun _ => False) w0 Wr) (fun _ _ iv _ => N - (intOf iv).toNat)
  case atStart => exact ⟨0, [], false, rfl, Nat.zero_le _, rfl, InsI.start l x, World.ownsRow_nil _ _ _ _, Keeps.refl _ w0⟩
  case round =>
    obtain ⟨k, out, done, rfl, hkN, rfl, hI, hO, kr⟩ := hrel
    have hol := hI.len (by rw [HN.out]; exact hkN)
    have HI : Hid (InsI l x k out done) := hI
    have HO : Hid (wr.ownsRow w0.heap.size 34 4 u5 out.length (ecl out)) := hO
    have HKR : Hid (Keeps (fun _ => False) w0 wr) := kr
    have HAP : Hid (∀ W v (o : List Ed) (y : Ed), Keeps (fun _ => False) w0 W → o.length ≤ k + 2 → W.ownsRow w0.heap.size 34 4 v o.length (ecl o) → ∃ v' w', (Builtin.append_ #[23, 23] 23 #[v, .slice (some ⟨W.heap.size, 0, none⟩) 1 1]).run Try.prog (W.alloc (.cells #[.int .i64 y.f, .int .i64 y.t, .int .i64 y.k, .int .i64 y.o] 34)) = .ok v' w' ∧ w'.ownsRow w0.heap.size 34 4 v' (o ++ [y]).length (ecl (o ++ [y])) ∧ Keeps (fun _ => False) w0 w') := fun W v o y k1 ho h => by
      obtain ⟨v', w', h1, h2, h3⟩ := append_e h k1.size (by omega) y
      exact ⟨v', w', h1, by rw [List.length_append]; exact h2, k1.trans' h3 (fun _ _ e => e) (fun i hi e => by have := owns_baseT h i e; omega)⟩
    clear hI hO kr
    by_cases hlt : k < N
    · have j1 : decide ((k : Int) < (N : Int)) = true := decide_eq_true (by omega)
      have j2 : decide (k < N) = true := decide_eq_true hlt
      have j3 : (k : Int) < (N : Int) := by omega
      have j4 : (0 : Int) ≤ (k : Int) := by omega
      have hwi : IntKind.i64.wrap ((k : Int) + 1) = (k : Int) + 1 := by rw [IntKind.wrap_i64]; omega
      have hkl : k < l.length := by rw [HN.out]; exact hlt
      obtain ⟨b, off, rfl, hc⟩ := HL.out k hkl
      have HY : Hid (∀ W, Keeps (fun _ => False) w0 W → W.cell? ⟨b, off + k * 4, none⟩ = some (.int .i64 (l.getD k ed0).f) ∧ W.cell? ⟨b, off + k * 4 + 1, none⟩ = some (.int .i64 (l.getD k ed0).t) ∧ W.cell? ⟨b, off + k * 4 + 2, none⟩ = some (.int .i64 (l.getD k ed0).k) ∧ W.cell? ⟨b, off + k * 4 + 3, none⟩ = some (.int .i64 (l.getD k ed0).o)) := fun W kw => ⟨kw.cell (hc 0 _ rfl) (fun e => e), kw.cell (hc 1 _ rfl) (fun e => e), kw.cell (hc 2 _ rfl) (fun e => e), kw.cell (hc 3 _ rfl) (fun e => e)⟩
      have HLS : Hid (done = false → LtE (l.getD k ed0) x → InsI l x (k + 1) (out ++ [l.getD k ed0]) false) := fun e h => by have q := HI.out; rw [e] at q; exact q.less hkl h
      have HSA : Hid (done = false → ¬ LtE (l.getD k ed0) x → ¬ LtE x (l.getD k ed0) → InsI l x (k + 1) (out ++ [x]) true) := fun e h h2 => by have q := HI.out; rw [e] at q; exact q.same hkl h h2
      have HHE : Hid (done = false → ¬ LtE (l.getD k ed0) x → LtE x (l.getD k ed0) → InsI l x (k + 1) (out ++ [x] ++ [l.getD k ed0]) true) := fun e h h2 => by have q := HI.out; rw [e] at q; exact q.here hkl h h2
      have HPA : Hid (done = true → InsI l x (k + 1) (out ++ [l.getD k ed0]) true) := fun e => by have q := HI.out; rw [e] at q; exact q.past hkl
      generalize l.getD k ed0 = y at *
      clear hc hkl HI
      cases done
      · have HLS2 : Hid (LtE y x → InsI l x (k + 1) (out ++ [y]) false) := HLS.out rfl
        have HSA2 : Hid (¬ LtE y x → ¬ LtE x y → InsI l x (k + 1) (out ++ [x]) true) := HSA.out rfl
        have HHE2 : Hid (¬ LtE y x → LtE x y → InsI l x (k + 1) (out ++ [x] ++ [y]) true) := HHE.out rfl
        clear HLS HSA HHE HPA
        obtain ⟨x0, x1, x2, x3⟩ := HX.out wr HKR.out
        obtain ⟨y0, y1, y2, y3⟩ := HY.out wr HKR.out
        have X0 := ks_cell x0
        have X1 := ks_cell x1
        have X2 := ks_cell x2
        have X3 := ks_cell x3
        have Y0 := ks_cell y0
        have Y1 := ks_cell y1
        have Y2 := ks_cell y2
        have Y3 := ks_cell y3
        have hNE : Nonempty (KS wr) := ⟨⟨wr, Keeps.refl _ wr⟩⟩
        clear x0 x1 x2 x3 y0 y1 y2 y3
        by_cases hq : LtE y x
        · have hbf : ∀ u : KS wr, Calls Try.prog 23 #[.agg #[.int .i64 y.f, .int .i64 y.t, .int .i64 y.k, .int .i64 y.o], .agg #[.int .i64 x.f, .int .i64 x.t, .int .i64 x.k, .int .i64 x.o]] u.1 (fun e w' => e = .returned (.bool true) ∧ Keeps (fun _ => False) u.1 w') := fun u => HBF.out u.1 y x true (decide_eq_true hq).symm
          have HNX : Hid (InsI l x (k + 1) (out ++ [y]) false) := HLS2.out hq
          clear hq HLS2 HSA2 HHE2
          go_wp2_with fail
          refine wp_region_ks (by kernel_rfl) (by kernel_rfl) ?_
          (repeat (first | go_big_quiet_skip | go_big_quiet_step ((go_at_call 23; refine (hbf _).mono ?_; rintro e w9 ⟨rfl, k9⟩; exact ⟨rfl, ⟨_, (KS.property _).trans k9⟩, rfl⟩))))
          refine wpQuiet_nil ?_
          rintro _ ⟨U, rfl⟩
          have ku := U.property
          clear X0 X1 X2 X3 Y0 Y1 Y2 Y3 hNE hbf
          generalize U.val = wu at *
          have KU : Hid (Keeps (fun _ => False) w0 wu) := HKR.out.trans ku
          obtain ⟨y0, y1, y2, y3⟩ := HY.out wu KU.out
          obtain ⟨v', w', hr, ho, kk⟩ := HAP.out wu u5 out y KU.out (by omega) (ku.owns HO.out (fun _ _ e => e))
          have HHO : Hid (w'.ownsRow w0.heap.size 34 4 v' (out ++ [y]).length (ecl (out ++ [y]))) := ho
          clear ho ku
          go_wp2_with (at_builtin; refine wpList_append_tL rfl _ _ _ rfl _ _ _ w' rfl rfl hr ?_; clear hr)
          go_roundw
          case rel => exact ⟨k + 1, out ++ [y], false, by go_num, by omega, rfl, HNX.out, HHO.out, kk⟩
          case measure => simp [intOf]; omega
        · have hbf : ∀ u : KS wr, Calls Try.prog 23 #[.agg #[.int .i64 y.f, .int .i64 y.t, .int .i64 y.k, .int .i64 y.o], .agg #[.int .i64 x.f, .int .i64 x.t, .int .i64 x.k, .int .i64 x.o]] u.1 (fun e w' => e = .returned (.bool false) ∧ Keeps (fun _ => False) u.1 w') := fun u => HBF.out u.1 y x false (decide_eq_false hq).symm
          have HSA3 : Hid (¬ LtE x y → InsI l x (k + 1) (out ++ [x]) true) := HSA2.out hq
          have HHE3 : Hid (LtE x y → InsI l x (k + 1) (out ++ [x] ++ [y]) true) := HHE2.out hq
          clear hq HLS2 HSA2 HHE2
          go_wp2_with fail
          refine wp_region_ks (by kernel_rfl) (by kernel_rfl) ?_
          (repeat (first | go_big_quiet_skip | go_big_quiet_step ((go_at_call 23; refine (hbf _).mono ?_; rintro e w9 ⟨rfl, k9⟩; exact ⟨rfl, ⟨_, (KS.property _).trans k9⟩, rfl⟩))))
          refine wpQuiet_nil ?_
          rintro _ ⟨U, rfl⟩
          have ku := U.property
          clear X0 X1 X2 X3 Y0 Y1 Y2 Y3 hNE hbf
          generalize U.val = wu at *
          have KU : Hid (Keeps (fun _ => False) w0 wu) := HKR.out.trans ku
          obtain ⟨x0, x1, x2, x3⟩ := HX.out wu KU.out
          obtain ⟨v', w', hr, ho, kk⟩ := HAP.out wu u5 out x KU.out (by omega) (ku.owns HO.out (fun _ _ e => e))
          have HHO : Hid (w'.ownsRow w0.heap.size 34 4 v' (out ++ [x]).length (ecl (out ++ [x]))) := ho
          have HKK : Hid (Keeps (fun _ => False) w0 w') := kk
          clear ho ku kk
          go_wp2_with (at_builtin; refine wpList_append_tL rfl _ _ _ rfl _ _ _ w' rfl rfl hr ?_; clear hr x0 x1 x2 x3)
          obtain ⟨x0, x1, x2, x3⟩ := HX.out w' HKK.out
          obtain ⟨y0, y1, y2, y3⟩ := HY.out w' HKK.out
          have X0 := ks_cell x0
          have X1 := ks_cell x1
          have X2 := ks_cell x2
          have X3 := ks_cell x3
          have Y0 := ks_cell y0
          have Y1 := ks_cell y1
          have Y2 := ks_cell y2
          have Y3 := ks_cell y3
          have hNE : Nonempty (KS w') := ⟨⟨w', Keeps.refl _ w'⟩⟩
          clear x0 x1 x2 x3 y0 y1 y2 y3
          by_cases hq2 : LtE x y
          · have hbf : ∀ u : KS w', Calls Try.prog 23 #[.agg #[.int .i64 x.f, .int .i64 x.t, .int .i64 x.k, .int .i64 x.o], .agg #[.int .i64 y.f, .int .i64 y.t, .int .i64 y.k, .int .i64 y.o]] u.1 (fun e w' => e = .returned (.bool true) ∧ Keeps (fun _ => False) u.1 w') := fun u => HBF.out u.1 x y true (decide_eq_true hq2).symm
            have HNX : Hid (InsI l x (k + 1) (out ++ [x] ++ [y]) true) := HHE3.out hq2
            clear hq2 HSA3 HHE3
            refine wp_region_ks (by kernel_rfl) (by kernel_rfl) ?_
            (repeat (first | go_big_quiet_skip | go_big_quiet_step ((go_at_call 23; refine (hbf _).mono ?_; rintro e w9 ⟨rfl, k9⟩; exact ⟨rfl, ⟨_, (KS.property _).trans k9⟩, rfl⟩))))
            refine wpQuiet_nil ?_
            rintro _ ⟨U, rfl⟩
            have kv := U.property
            clear X0 X1 X2 X3 Y0 Y1 Y2 Y3 hNE hbf
            generalize U.val = wv at *
            have KV : Hid (Keeps (fun _ => False) w0 wv) := HKK.out.trans kv
            obtain ⟨y0, y1, y2, y3⟩ := HY.out wv KV.out
            obtain ⟨v2, w2, hr, ho, kk⟩ := HAP.out wv v' (out ++ [x]) y KV.out (by rw [List.length_append]; show out.length + 1 ≤ _; omega) (kv.owns HHO.out (fun _ _ e => e))
            have HH2 : Hid (w2.ownsRow w0.heap.size 34 4 v2 (out ++ [x] ++ [y]).length (ecl (out ++ [x] ++ [y]))) := ho
            clear ho kv
            go_wp2_with (at_builtin; refine wpList_append_tL rfl _ _ _ rfl _ _ _ w2 rfl rfl hr ?_; clear hr)
            go_roundw
            case rel => exact ⟨k + 1, out ++ [x] ++ [y], true, by go_num, by omega, rfl, HNX.out, HH2.out, kk⟩
            case measure => simp [intOf]; omega
          · have hbf : ∀ u : KS w', Calls Try.prog 23 #[.agg #[.int .i64 x.f, .int .i64 x.t, .int .i64 x.k, .int .i64 x.o], .agg #[.int .i64 y.f, .int .i64 y.t, .int .i64 y.k, .int .i64 y.o]] u.1 (fun e w' => e = .returned (.bool false) ∧ Keeps (fun _ => False) u.1 w') := fun u => HBF.out u.1 x y false (decide_eq_false hq2).symm
            have HNX : Hid (InsI l x (k + 1) (out ++ [x]) true) := HSA3.out hq2
            clear hq2 HSA3 HHE3
            refine wp_region_ks (by kernel_rfl) (by kernel_rfl) ?_
            (repeat (first | go_big_quiet_skip | go_big_quiet_step ((go_at_call 23; refine (hbf _).mono ?_; rintro e w9 ⟨rfl, k9⟩; exact ⟨rfl, ⟨_, (KS.property _).trans k9⟩, rfl⟩))))
            refine wpQuiet_nil ?_
            rintro _ ⟨U, rfl⟩
            have kv := U.property
            clear X0 X1 X2 X3 Y0 Y1 Y2 Y3 hNE hbf
            generalize U.val = wv at *
            have KV : Hid (Keeps (fun _ => False) w0 wv) := HKK.out.trans kv
            have HH2 : Hid (wv.ownsRow w0.heap.size 34 4 v' (out ++ [x]).length (ecl (out ++ [x]))) := kv.owns HHO.out (fun _ _ e => e)
            clear kv
            go_wp2_with fail
            go_roundw
            case rel => exact ⟨k + 1, out ++ [x], true, by go_num, by omega, rfl, HNX.out, HH2.out, KV.out⟩
            case measure => simp [intOf]; omega
      · have HNX : Hid (InsI l x (k + 1) (out ++ [y]) true) := HPA.out rfl
        clear HLS HSA HHE HPA
        have hNE : Nonempty (KS wr) := ⟨⟨wr, Keeps.refl _ wr⟩⟩
        go_wp2_with fail
        refine wp_region_ks (by kernel_rfl) (by kernel_rfl) ?_
        (repeat (first | go_big_quiet_skip | go_big_quiet_step (fail)))
        refine wpQuiet_nil ?_
        rintro _ ⟨U, rfl⟩
        have ku := U.property
        clear hNE
        generalize U.val = wu at *
        have KU : Hid (Keeps (fun _ => False) w0 wu) := HKR.out.trans ku
        obtain ⟨y0, y1, y2, y3⟩ := HY.out wu KU.out
        obtain ⟨v', w', hr, ho, kk⟩ := HAP.out wu u5 out y KU.out (by omega) (ku.owns HO.out (fun _ _ e => e))
        have HHO : Hid (w'.ownsRow w0.heap.size 34 4 v' (out ++ [y]).length (ecl (out ++ [y]))) := ho
        clear ho ku
        go_wp2_with (at_builtin; refine wpList_append_tL rfl _ _ _ rfl _ _ _ w' rfl rfl hr ?_; clear hr)
        go_roundw
        case rel => exact ⟨k + 1, out ++ [y], true, by go_num, by omega, rfl, HNX.out, HHO.out, kk⟩
        case measure => simp [intOf]; omega
    · have j1 : decide ((k : Int) < (N : Int)) = false := decide_eq_false (by omega)
      have j2 : decide (k < N) = false := decide_eq_false hlt
      have hkl : l.length ≤ k := by rw [HN.out]; omega
      cases done
      · have hE := HI.out.end0 hkl
        obtain ⟨x0, x1, x2, x3⟩ := HX.out wr HKR.out
        obtain ⟨v', w', hr, ho, kk⟩ := HAP.out wr u5 out x HKR.out (by omega) HO.out
        rw [← hE] at ho
        have HEND := HE.out w' v' ho kk
        have HEND2 : Hid (∃ v'', Ending.returned v' = .returned v'' ∧ w'.ownsRow bx 34 4 v'' (insE x l).length (ecl (insE x l)) ∧ Keeps (fun _ => False) w w') := HEND
        clear ho kk hE hkl HEND
        go_wp2_with (at_builtin; refine wpList_append_tL rfl _ _ _ rfl _ _ _ w' rfl rfl hr ?_; clear hr)
        go_ret
        exact HEND2.out
      · have hE := HI.out.end1 hkl
        have h := HO.out
        rw [← hE] at h
        have HEND := HE.out wr u5 h HKR.out
        have HEND2 : Hid (∃ v'', Ending.returned u5 = .returned v'' ∧ wr.ownsRow bx 34 4 v'' (insE x l).length (ecl (insE x l)) ∧ Keeps (fun _ => False) w wr) := HEND
        clear h hE hkl HEND
        go_wp2_with fail
        go_ret
        exact HEND2.out
end Go.Proofs.Ythmlppepgcjfgaa
