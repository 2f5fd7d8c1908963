import Derived.Test.YtchbhmolnoggfaaGreatDoorG19
namespace Go.Proofs.YtchbhmolnoggfaaGreatDoor
open Go.RowKit Go.Deep Go.ChangeShapes Go.WideShapes Go.ChangeAt
attribute [local go_sem] Oper.semAt_some run_store_nf run_store_f
theorem iUs : (Tryz.prog.info? 54).map (·.size) = some 4 := by kernel_rfl
set_option maxHeartbeats 2000000 in
set_option maxRecDepth 1000000 in
theorem parse_join {w : World} {base R fb : Nat} {cv nv wv uv : Value} {qs : List Ins} {ns : List (ByteArray × Nat)} {js : List (Nat × Pc)} {RES : Except Flt (List Ins)} {P : Ending → World → Prop} {x0 x1 x2 x5 x6 x7 x8 x9 x10 x11 x12 x13 x14 x15 x16 x17 x18 x19 x20 x21 x22 x23 x24 x25 x26 x27 x28 x29 x30 x31 x32 x33 x34 x35 x36 x37 x38 x39 x40 x41 x42 x43 x44 x45 x46 x47 x48 x49 x50 x51 x52 x53 x54 x55 x56 x57 x58 x59 x60 x61 x62 x63 x64 x65 x66 x67 x68 x69 x70 x71 x72 x73 x74 x75 x76 x77 x78 : Value} (hY : RY w base R cv nv wv uv qs ns js) (hjs : ∀ x ∈ js, x.1 < qs.length) (hjl : js.length ≤ 20000) (hnl : ns.length ≤ 19000000) (hf : CL w fb [.int .i64 0, .int .i64 0, .int .i64 0]) (hfb : fb < base) (hRES : joR (lk ns) js qs = RES)
    (hPe : ∀ fl w', RES = .error fl → Keeps (fun i => base ≤ i ∨ i = R ∨ i = fb) w w' → P (.returned (.tuple #[.slice none 0 0, .agg #[.int .i64 fl.1, .int .i64 fl.2.1, .int .i64 fl.2.2]])) w')
    (hPo : ∀ l w', RES = .ok l → w'.ownsRow base 59 11 cv l.length (icl l) → Keeps (fun i => base ≤ i ∨ i = R ∨ i = fb) w w' → P (.returned (.tuple #[cv, .agg #[.int .i64 0, .int .i64 0, .int .i64 0]])) w') :
    (parC Tryz.f5).wp Tryz.prog (bodyPost Tryz.prog Tryz.f5 P) { tmps := #[x0, x1, x2, .pointer (some ⟨fb, 0, none⟩), .pointer (some ⟨R, 0, none⟩), x5, x6, x7, x8, x9, x10, x11, x12, x13, x14, x15, x16, x17, x18, x19, x20, x21, x22, x23, x24, x25, x26, x27, x28, x29, x30, x31, x32, x33, x34, x35, x36, x37, x38, x39, x40, x41, x42, x43, x44, x45, x46, x47, x48, x49, x50, x51, x52, x53, x54, x55, x56, x57, x58, x59, x60, x61, x62, x63, x64, x65, x66, x67, x68, x69, x70, x71, x72, x73, x74, x75, x76, x77, x78], defers := [] } w := by
  have HE : Hid (∀ fl w', RES = .error fl → Keeps (fun i => base ≤ i ∨ i = R ∨ i = fb) w w' → P (.returned (.tuple #[.slice none 0 0, .agg #[.int .i64 fl.1, .int .i64 fl.2.1, .int .i64 fl.2.2]])) w') := hPe
  have HR0 : Hid (joR (lk ns) (js.drop 0) qs = RES) := hRES
  obtain ⟨aj, capj, rfl⟩ := slice_of_owns hY.u
  obtain ⟨ac, capc, rfl⟩ := slice_of_owns hY.o
  have HO : Hid (∀ l w', RES = .ok l → w'.ownsRow base 59 11 (.slice ac qs.length capc) l.length (icl l) → Keeps (fun i => base ≤ i ∨ i = R ∨ i = fb) w w' → P (.returned (.tuple #[(.slice ac qs.length capc), .agg #[.int .i64 0, .int .i64 0, .int .i64 0]])) w') := hPo
  clear hPe hPo hRES
  obtain ⟨N, hN⟩ : ∃ N, qs.length = N := ⟨_, rfl⟩
  obtain ⟨M, hM⟩ : ∃ M, js.length = M := ⟨_, rfl⟩
  rw [hN] at HO hY hjs
  rw [hM] at hY hjl
  have hfl := hf.lt (by show 0 < 3; decide)
  dsimp only [parC, Tryz.f5]
  refine wp_seq_k (fun KK hKK => ?_)
  have hKH : Hid _ := hKK
  clear hKK
  go_wp2_with fail
  go_loopw [8] (fun iv Wr => ∃ (k : Nat) (qs' : List Ins), iv = .int .i64 (k : Int) ∧ k ≤ M ∧ Hid (joR (lk ns) (js.drop k) qs' = RES) ∧ RY Wr base R (.slice ac N capc) nv wv (.slice aj M capj) qs' ns js ∧ Hid (qs'.length = N) ∧ Keeps (fun i => base ≤ i) w Wr) (fun iv _ => M - (intOf iv).toNat)
  case atStart => exact ⟨0, qs, rfl, Nat.zero_le _, HR0, hY, hN, Keeps.refl _ _⟩
  case round =>
    obtain ⟨k, qs', rfl, hk, HM, hI', HN, kr⟩ := hrel
    have s3 := hI'.c.c 3 _ rfl
    by_cases hlt : k < M
    · have hltI : decide ((k : Int) < (M : Int)) = true := decide_eq_true (by omega)
      have hltJ : (k : Int) < (M : Int) := by omega
      have hk0 : (0 : Int) ≤ (k : Int) := by omega
      obtain ⟨x, hx⟩ : ∃ x, js[k]? = some x := ⟨_, List.getElem?_eq_getElem (by omega)⟩
      have hxm := hjs x (List.mem_of_getElem? hx)
      have e3 : js.drop k = x :: js.drop (k + 1) := by
        obtain ⟨hk, e⟩ := List.getElem?_eq_some_iff.1 hx
        rw [List.drop_eq_getElem_cons hk, e]
      rw [e3] at HM
      obtain ⟨jb, hjb⟩ : ∃ jb, aj = some ⟨jb, 0, none⟩ := by
        rcases hI'.u.2 with ⟨h1, h2⟩ | ⟨g, cap, cur, h1, _⟩
        · injection h1 with h1 h3 _; omega
        · injection h1 with h1 _ _; exact ⟨g, h1⟩
      subst hjb
      obtain ⟨pl, pt, pln, pcol⟩ := x
      have hR0 : (loadVar 54 ⟨jb, k * 4, none⟩).run Tryz.prog wr = .ok (.agg #[.int .i64 (pl : Int), .string pt, .int .i64 pln, .int .i64 pcol]) wr := run_loadVar_mid wr jb (k * 4) 54 [.int .i64 (pl : Int), .string pt, .int .i64 pln, .int .i64 pcol] _ (fun c v hv => by
        have := hI'.u.cells (g := jb) rfl (k * 4 + c) v (jcl_get js k c v _ hx hv)
        rw [add_at, Nat.zero_add] at this
        exact this) Tryz.underlying54 rfl (by rw [iUs]; rfl)
      simp only at hxm
      have HPl0 : ∀ W, Keeps (fun _ => False) wr W → Calls Tryz.prog 16 #[.pointer (some ⟨R, 0, none⟩), .string pt] W fun e w' => e = .returned (.int .i64 (plc (lk ns pt))) ∧ w' = W := fun W kW => rplace_T (hI'.keep kW) (by omega) pt
      have HM2 : (match lk ns pt with | none => .error (107, pln, pcol) | some v => joR (lk ns) (js.drop (k + 1)) (qs'.set pl { qs'.getD pl ins0 with to := (v : Int) })) = RES := HM.out
      clear hx e3 HM
      cases hfp : lk ns pt with
      | none =>
        rw [hfp] at HM2 HPl0
        have HRE : Hid (RES = .error (107, pln, pcol)) := HM2.symm
        have HPl : Hid (∀ W, Keeps (fun _ => False) wr W → Calls Tryz.prog 16 #[.pointer (some ⟨R, 0, none⟩), .string pt] W fun e w' => e = .returned (.int .i64 (-1)) ∧ w' = W) := HPl0
        clear HPl0 HM2 hfp
        go_wp2_with (first | (refine wpList_load_run rfl 54 _ rfl ⟨jb, k * 4, none⟩ rfl _ hR0 ?_; clear hR0) | (refine wpList_store_cl rfl 54 _ _ rfl wr.heap.size 0 4 _ rfl rfl rfl (CL.made wr [.int .i64 0, .string ⟨#[]⟩, .int .i64 0, .int .i64 0] 54) (by show 4 ≤ 4; decide) iUs (all_oneCell_toArray (by simp [Value.oneCell'])) ?_; intro w5 hc5 k5 hsz5; clear hsz5; have x0 := hc5.c 0 _ rfl; have x1 := hc5.c 1 _ rfl; have x2 := hc5.c 2 _ rfl; have x3 := hc5.c 3 _ rfl; have k45 : Keeps (fun _ => False) wr w5 := (((Keeps.refl (fun _ => False) wr).alloc _).mono (fun _ _ e => e)).trans' k5 (fun _ _ e => e) (fun j hj e => by have e : j = wr.heap.size := e; omega); have hI5 := hI'.keep k45; have r0 := hI5.c.c 0 _ rfl; have hPl := HPl.out w5 k45) | (go_at_call 16; refine hPl.mono ?_; rintro e w6 ⟨rfl, hww⟩; have hw2 := hww.symm; clear hww; subst hw2))
        have kT : Keeps (fun i => base ≤ i) w w5 := kr.trans (k45.mono (fun _ _ e => e.elim))
        have hfd := (hf.keep (by show 0 < 3; decide) kT (fun e => by omega)).keep (by show 0 < 3; decide) (Keeps.refl (fun _ => False) w5).drew (fun e => e)
        have nfw : ¬ wr.heap.size = fb := by have := kr.size; omega
        refine wp_region_held_drew (S := fun w' => Keeps (fun i => i = fb) w5 w') (by kernel_rfl) (Keeps.refl _ w5).drew (fun hHeld => ?_)
        refine wpAnyH_take (i := 0) (v := ?_) rfl (by kernel_rfl) (by kernel_rfl) (by kernel_rfl) (fun _ _ _ h => h) (Or.inl ⟨by rfl, ?_⟩) (by assumption) ?_
        rotate_left
        · intro wx hSw;  go_simp <;> with_reducible rfl
        (try simp only [List.getElem_toArray]); (try simp only [List.getElem_cons_succ]); (try simp only [List.getElem_cons_zero]); (try simp only [Act.put]); (try simp only [List.setIfInBounds_toArray]); (repeat first | simp only [List.set_cons_succ] | simp only [List.set_cons_zero])
        refine wpAnyH_take (i := 1) (v := ?_) rfl (by kernel_rfl) (by kernel_rfl) (by kernel_rfl) (fun _ _ _ h => h) (Or.inl ⟨by rfl, ?_⟩) (by assumption) ?_
        rotate_left
        · intro wx hSw; have q2 := hSw.cell x2 nfw;  go_simp <;> with_reducible rfl
        (try simp only [List.getElem_toArray]); (try simp only [List.getElem_cons_succ]); (try simp only [List.getElem_cons_zero]); (try simp only [Act.put]); (try simp only [List.setIfInBounds_toArray]); (repeat first | simp only [List.set_cons_succ] | simp only [List.set_cons_zero])
        refine wpAnyH_take (i := 2) (v := ?_) rfl (by kernel_rfl) (by kernel_rfl) (by kernel_rfl) (fun _ _ _ h => h) (Or.inl ⟨by rfl, ?_⟩) (by assumption) ?_
        rotate_left
        · intro wx hSw;  go_simp <;> with_reducible rfl
        (try simp only [List.getElem_toArray]); (try simp only [List.getElem_cons_succ]); (try simp only [List.getElem_cons_zero]); (try simp only [Act.put]); (try simp only [List.setIfInBounds_toArray]); (repeat first | simp only [List.set_cons_succ] | simp only [List.set_cons_zero])
        refine wpAnyH_take (i := 3) (v := ?_) rfl (by kernel_rfl) (by kernel_rfl) (by kernel_rfl) (fun _ _ _ h => h) (Or.inl ⟨by rfl, ?_⟩) (by assumption) ?_
        rotate_left
        · intro wx hSw; have q3 := hSw.cell x3 nfw;  go_simp <;> with_reducible rfl
        (try simp only [List.getElem_toArray]); (try simp only [List.getElem_cons_succ]); (try simp only [List.getElem_cons_zero]); (try simp only [Act.put]); (try simp only [List.setIfInBounds_toArray]); (repeat first | simp only [List.set_cons_succ] | simp only [List.set_cons_zero])
        refine wpAnyH_take (i := 4) (v := ?_) rfl (by kernel_rfl) (by kernel_rfl) (by kernel_rfl) (fun _ _ _ h => h) (Or.inl ⟨by rfl, ?_⟩) (by assumption) ?_
        rotate_left
        · intro wx hSw;  go_simp <;> with_reducible rfl
        (try simp only [List.getElem_toArray]); (try simp only [List.getElem_cons_succ]); (try simp only [List.getElem_cons_zero]); (try simp only [Act.put]); (try simp only [List.setIfInBounds_toArray]); (repeat first | simp only [List.set_cons_succ] | simp only [List.set_cons_zero])
        refine wpAnyH_take (i := 5) (v := ?_) rfl (by kernel_rfl) (by kernel_rfl) (by kernel_rfl) (fun _ _ _ h => h) (Or.inl ⟨by rfl, ?_⟩) (by assumption) ?_
        rotate_left
        · intro wx hSw;  go_simp <;> with_reducible rfl
        (try simp only [List.getElem_toArray]); (try simp only [List.getElem_cons_succ]); (try simp only [List.getElem_cons_zero]); (try simp only [Act.put]); (try simp only [List.setIfInBounds_toArray]); (repeat first | simp only [List.set_cons_succ] | simp only [List.set_cons_zero])
        refine wpAnyH_store 6 (by kernel_rfl) rfl rfl 30 _ _ rfl fb 0 3 #[.int .i64 107, .int .i64 pln, .int .i64 pcol] rfl rfl rfl (hfd.there (by show 0 + 3 ≤ 3; decide)) iFr (all_oneCell_toArray (by simp [Value.oneCell'])) (hHeld.setsA 0 _) (fun hS3 => ?_)
        (try simp only [List.getElem_toArray]); (try simp only [List.getElem_cons_succ]); (try simp only [List.getElem_cons_zero]); (try simp only [Act.put]); (try simp only [List.setIfInBounds_toArray]); (repeat first | simp only [List.set_cons_succ] | simp only [List.set_cons_zero])
        refine wpAnyH_done (by kernel_rfl) ?_ _
        have hcS : CL (w5.drew.setCells fb 0 [.int .i64 107, .int .i64 pln, .int .i64 pcol]) fb [.int .i64 107, .int .i64 pln, .int .i64 pcol] := hfd.sets (o := 0) (vs := [.int .i64 107, .int .i64 pln, .int .i64 pcol]) (by show 3 ≤ 3; decide)
        have g0 := hcS.c 0 _ rfl
        have g1 := hcS.c 1 _ rfl
        have g2 := hcS.c 2 _ rfl
        go_wp2_with fail
        (try simp only [Exit.inBlock, Exit.then])
        refine bodyPost_ret (v := .tuple #[.slice none 0 0, .agg #[.int .i64 107, .int .i64 pln, .int .i64 pcol]]) (by rw [results_tc rfl]; go_simp) rfl (HE.out (107, pln, pcol) _ HRE.out ?_)
        exact (kT.mono (fun _ _ e => .inl e)).trans (hS3.mono (fun _ _ e => .inr (.inr e)))
      | some v =>
        rw [hfp] at HM2 HPl0
        have HM3 : Hid (joR (lk ns) (js.drop (k + 1)) (qs'.set pl { qs'.getD pl ins0 with to := (v : Int) }) = RES) := HM2
        have HPl : Hid (∀ W, Keeps (fun _ => False) wr W → Calls Tryz.prog 16 #[.pointer (some ⟨R, 0, none⟩), .string pt] W fun e w' => e = .returned (.int .i64 (v : Int)) ∧ w' = W) := HPl0
        have g0 : decide ((v : Int) < 0) = false := decide_eq_false (by omega)
        have g1 : ¬ (v : Int) < 0 := by omega
        obtain ⟨cb, hcb⟩ : ∃ cb, ac = some ⟨cb, 0, none⟩ := by
          rcases hI'.o.2 with ⟨h1, h2⟩ | ⟨g, cap, cur, h1, _⟩
          · injection h1 with h1 h3 _; omega
          · injection h1 with h1 _ _; exact ⟨g, h1⟩
        subst hcb
        have hpN : pl < qs'.length := by rw [HN.out]; exact hxm
        have hp0 : (0 : Int) ≤ (pl : Int) := by omega
        have hp1 : (pl : Int) < (N : Int) := by omega
        have hilen : (icl qs').length = qs'.length * 11 := hI'.o.1
        have nR : R ≠ cb := fun e => hI'.dR (.slice (some ⟨cb, 0, none⟩) N capc) (by simp) (by rw [e]; rfl)
        have nW : wr.heap.size ≠ cb := fun e => by have := owns_lt' hI'.o cb rfl; omega
        clear HPl0 HM2 hfp
        go_wp2_with (first | (refine wpList_load_run rfl 54 _ rfl ⟨jb, k * 4, none⟩ rfl _ hR0 ?_; clear hR0) | (refine wpList_store_cl rfl 54 _ _ rfl wr.heap.size 0 4 _ rfl rfl rfl (CL.made wr [.int .i64 0, .string ⟨#[]⟩, .int .i64 0, .int .i64 0] 54) (by show 4 ≤ 4; decide) iUs (all_oneCell_toArray (by simp [Value.oneCell'])) ?_; intro w5 hc5 k5 hsz5; clear hsz5; have x0 := hc5.c 0 _ rfl; have x1 := hc5.c 1 _ rfl; have x2 := hc5.c 2 _ rfl; have x3 := hc5.c 3 _ rfl; have k45 : Keeps (fun _ => False) wr w5 := (((Keeps.refl (fun _ => False) wr).alloc _).mono (fun _ _ e => e)).trans' k5 (fun _ _ e => e) (fun j hj e => by have e : j = wr.heap.size := e; omega); have hI5 := hI'.keep k45; have r0 := hI5.c.c 0 _ rfl; have hPl := HPl.out w5 k45) | (go_at_call 16; refine hPl.mono ?_; rintro e w6 ⟨rfl, hww⟩; have hw2 := hww.symm; clear hww; subst hw2))
        refine wp_region_held_drew (S := fun w' => Keeps (fun k => k = cb) w5 w') (by kernel_rfl) (Keeps.refl _ w5).drew (fun hHeld => ?_)
        refine wpAnyH_take (i := 0) (v := ?_) rfl (by kernel_rfl) (by kernel_rfl) (by kernel_rfl) (fun _ _ _ h => h) (Or.inl ⟨by rfl, ?_⟩) (by assumption) ?_
        rotate_left
        · intro wx hSw;  go_simp <;> with_reducible rfl
        (try simp only [List.getElem_toArray]); (try simp only [List.getElem_cons_succ]); (try simp only [List.getElem_cons_zero]); (try simp only [Act.put]); (try simp only [List.setIfInBounds_toArray]); (repeat first | simp only [List.set_cons_succ] | simp only [List.set_cons_zero])
        refine wpAnyH_take (i := 1) (v := ?_) rfl (by kernel_rfl) (by kernel_rfl) (by kernel_rfl) (fun _ _ _ h => h) (Or.inl ⟨by rfl, ?_⟩) (by assumption) ?_
        rotate_left
        · intro wx hSw;  go_simp <;> with_reducible rfl
        (try simp only [List.getElem_toArray]); (try simp only [List.getElem_cons_succ]); (try simp only [List.getElem_cons_zero]); (try simp only [Act.put]); (try simp only [List.setIfInBounds_toArray]); (repeat first | simp only [List.set_cons_succ] | simp only [List.set_cons_zero])
        refine wpAnyH_take (i := 2) (v := ?_) rfl (by kernel_rfl) (by kernel_rfl) (by kernel_rfl) (fun _ _ _ h => h) (Or.inl ⟨by rfl, ?_⟩) (by assumption) ?_
        rotate_left
        · intro wx hSw;  go_simp <;> with_reducible rfl
        (try simp only [List.getElem_toArray]); (try simp only [List.getElem_cons_succ]); (try simp only [List.getElem_cons_zero]); (try simp only [Act.put]); (try simp only [List.setIfInBounds_toArray]); (repeat first | simp only [List.set_cons_succ] | simp only [List.set_cons_zero])
        refine wpAnyH_take (i := 3) (v := ?_) rfl (by kernel_rfl) (by kernel_rfl) (by kernel_rfl) (fun _ _ _ h => h) (Or.inl ⟨by rfl, ?_⟩) (by assumption) ?_
        rotate_left
        · intro wx hSw; have q1 := hSw.cell r0 nR;  go_simp <;> with_reducible rfl
        (try simp only [List.getElem_toArray]); (try simp only [List.getElem_cons_succ]); (try simp only [List.getElem_cons_zero]); (try simp only [Act.put]); (try simp only [List.setIfInBounds_toArray]); (repeat first | simp only [List.set_cons_succ] | simp only [List.set_cons_zero])
        refine wpAnyH_take (i := 4) (v := ?_) rfl (by kernel_rfl) (by kernel_rfl) (by kernel_rfl) (fun _ _ _ h => h) (Or.inl ⟨by rfl, ?_⟩) (by assumption) ?_
        rotate_left
        · intro wx hSw;  go_simp <;> with_reducible rfl
        (try simp only [List.getElem_toArray]); (try simp only [List.getElem_cons_succ]); (try simp only [List.getElem_cons_zero]); (try simp only [Act.put]); (try simp only [List.setIfInBounds_toArray]); (repeat first | simp only [List.set_cons_succ] | simp only [List.set_cons_zero])
        refine wpAnyH_take (i := 5) (v := ?_) rfl (by kernel_rfl) (by kernel_rfl) (by kernel_rfl) (fun _ _ _ h => h) (Or.inl ⟨by rfl, ?_⟩) (by assumption) ?_
        rotate_left
        · intro wx hSw; have q2 := hSw.cell x0 nW;  go_simp <;> with_reducible rfl
        (try simp only [List.getElem_toArray]); (try simp only [List.getElem_cons_succ]); (try simp only [List.getElem_cons_zero]); (try simp only [Act.put]); (try simp only [List.setIfInBounds_toArray]); (repeat first | simp only [List.set_cons_succ] | simp only [List.set_cons_zero])
        refine wpAnyH_take (i := 6) (v := ?_) rfl (by kernel_rfl) (by kernel_rfl) (by kernel_rfl) (fun _ _ _ h => h) (Or.inl ⟨by rfl, ?_⟩) (by assumption) ?_
        rotate_left
        · intro wx hSw;  go_simp <;> with_reducible rfl
        (try simp only [List.getElem_toArray]); (try simp only [List.getElem_cons_succ]); (try simp only [List.getElem_cons_zero]); (try simp only [Act.put]); (try simp only [List.setIfInBounds_toArray]); (repeat first | simp only [List.set_cons_succ] | simp only [List.set_cons_zero])
        refine wpAnyH_take (i := 7) (v := ?_) rfl (by kernel_rfl) (by kernel_rfl) (by kernel_rfl) (fun _ _ _ h => h) (Or.inl ⟨by rfl, ?_⟩) (by assumption) ?_
        rotate_left
        · intro wx hSw;  go_simp <;> with_reducible rfl
        (try simp only [List.getElem_toArray]); (try simp only [List.getElem_cons_succ]); (try simp only [List.getElem_cons_zero]); (try simp only [Act.put]); (try simp only [List.setIfInBounds_toArray]); (repeat first | simp only [List.set_cons_succ] | simp only [List.set_cons_zero])
        refine wpAnyH_take (i := 8) (v := ?_) rfl (by kernel_rfl) (by kernel_rfl) (by kernel_rfl) (fun _ _ _ h => h) (Or.inl ⟨by rfl, ?_⟩) (by assumption) ?_
        rotate_left
        · intro wx hSw;  go_simp <;> with_reducible rfl
        (try simp only [List.getElem_toArray]); (try simp only [List.getElem_cons_succ]); (try simp only [List.getElem_cons_zero]); (try simp only [Act.put]); (try simp only [List.setIfInBounds_toArray]); (repeat first | simp only [List.set_cons_succ] | simp only [List.set_cons_zero])
        have hDD := hI5.keep (Keeps.refl (fun _ => False) w5).drew
        have ycell : w5.drew.cell? ⟨cb, pl * 11 + 10, none⟩ = some ((icl qs')[pl * 11 + 10]'(by rw [hilen]; omega)) := by
          have := hDD.o.cells (g := cb) rfl (pl * 11 + 10) _ (List.getElem?_eq_getElem (by rw [hilen]; omega))
          rw [add_at, Nat.zero_add] at this
          exact this
        have yz : w5.drew.frozen? ⟨cb, pl * 11 + 10, none⟩ = false := by
          rcases hDD.o.2 with ⟨h1, h2⟩ | ⟨g, cap, cur, h1, _, hgg, _⟩
          · cases h1
          · injection h1 with h1 _ _
            injection h1 with h1
            injection h1 with h1 _ _
            subst h1
            simp [World.frozen?, hgg]
        refine wpAnyH_one 9 (by kernel_rfl) rfl rfl ?_
        go_simp
        refine ⟨hHeld.setCell (fun _ => rfl) _, fun hS2 => ?_⟩
        (try simp only [List.getElem_toArray]); (try simp only [List.getElem_cons_succ]); (try simp only [List.getElem_cons_zero]); (try simp only [Act.put]); (try simp only [List.setIfInBounds_toArray]); (repeat first | simp only [List.set_cons_succ] | simp only [List.set_cons_zero])
        refine wpAnyH_done (by kernel_rfl) ?_ _
        have hlen' : (qs'.set pl { qs'.getD pl ins0 with to := (v : Int) }).length = qs'.length := List.length_set
        have hnew : (w5.drew.setCell ⟨cb, pl * 11 + 10, none⟩ (.int .i64 (v : Int))).ownsRow base 59 11 (.slice (some ⟨cb, 0, none⟩) N capc) (qs'.set pl { qs'.getD pl ins0 with to := (v : Int) }).length (icl (qs'.set pl { qs'.getD pl ins0 with to := (v : Int) })) := by
          rw [icl_set qs' pl (v : Int) hpN, hlen']
          have ho := hDD.o
          rw [HN.out] at ho ⊢
          exact (ho.stored (pl * 11 + 10) (.int .i64 (v : Int))).1
        have kS : Keeps (fun k => k = cb) w5.drew (w5.drew.setCell ⟨cb, pl * 11 + 10, none⟩ (.int .i64 (v : Int))) := (Keeps.refl _ _).setA _ _
        have d1 := hI'.d1 cb rfl
        have hI6 : RY (w5.drew.setCell ⟨cb, pl * 11 + 10, none⟩ (.int .i64 (v : Int))) base R (.slice (some ⟨cb, 0, none⟩) N capc) nv wv (.slice (some ⟨jb, 0, none⟩) M capj) (qs'.set pl { qs'.getD pl ins0 with to := (v : Int) }) ns js :=
          ⟨hDD.c.keep (by show 0 < 4; decide) kS nR, hnew, kS.owns hDD.n (fun g hg e => d1.1 ((show g = cb from e) ▸ hg)), kS.owns hDD.p (fun g hg e => d1.2.1 ((show g = cb from e) ▸ hg)), kS.owns hDD.u (fun g hg e => d1.2.2 ((show g = cb from e) ▸ hg)), hI'.b, hI'.dR, hI'.d1, hI'.d2, hI'.d3⟩
        have K6 : Keeps (fun i => base ≤ i) w (w5.drew.setCell ⟨cb, pl * 11 + 10, none⟩ (.int .i64 (v : Int))) := (kr.trans (k45.mono (fun _ _ e => e.elim))).trans (hS2.mono (fun i _ e => by have e : i = cb := e; rw [e]; exact owns_base hI'.o cb rfl))
        have HN6 : Hid ((qs'.set pl { qs'.getD pl ins0 with to := (v : Int) }).length = N) := hlen'.trans HN.out
        go_wp2_with fail
        go_roundw
        case rel => exact ⟨k + 1, _, by go_num, by omega, HM3, hI6, HN6, K6⟩
        case measure =>
          show M - ((k : Int) + 1).toNat < M - (k : Int).toNat
          omega
    · have hltI : decide ((k : Int) < (M : Int)) = false := decide_eq_false (by omega)
      have hltJ : ¬ (k : Int) < (M : Int) := by omega
      have HRE : Hid (RES = .ok qs') := by
        show _ = _
        have hd : js.drop k = [] := List.drop_eq_nil_of_le (by omega)
        rw [← HM.out, hd]; rfl
      have s0 := hI'.c.c 0 _ rfl
      have hfr := hf.keep (by show 0 < 3; decide) kr (fun e => by omega)
      go_wp2_with fail
      refine hKH.out _ _ ?_
      go_wp2_with (refine wpList_store_cl rfl 30 _ _ rfl fb 0 3 _ rfl rfl rfl hfr (by show 3 ≤ 3; decide) iFr (all_oneCell_toArray (by simp [Value.oneCell'])) ?_; intro w5 hc5 k5 hsz5; clear hsz5; have y0 := hc5.c 0 _ rfl; have y1 := hc5.c 1 _ rfl; have y2 := hc5.c 2 _ rfl)
      (try simp only [Exit.inBlock, Exit.then])
      refine bodyPost_ret (v := .tuple #[.slice ac N capc, .agg #[.int .i64 0, .int .i64 0, .int .i64 0]]) (by rw [results_tc rfl]; go_simp) rfl (HO.out qs' _ HRE.out ?_ ?_)
      · have ho := k5.owns hI'.o (fun g hg e => by have := owns_base hI'.o g hg; have e : g = fb := e; omega)
        exact ho
      · exact (kr.mono (fun _ _ e => .inl e)).trans (k5.mono (fun _ _ e => .inr (.inr e)))
end Go.Proofs.YtchbhmolnoggfaaGreatDoor

namespace Go.Proofs.YtchbhmolnoggfaaGreatDoor
open Go.RowKit Go.Deep Go.ChangeShapes Go.WideShapes Go.ChangeAt
attribute [local go_sem] Oper.semAt_some run_store_nf run_store_f
theorem lnr_at : ∀ (ws : List Pc) (s s' : Sx), lnR ws s = .ok s' → (∀ x ∈ s.js, x.1 < s.qs.length) → ∀ x ∈ s'.js, x.1 < s'.qs.length
  | [], s, s', h, hq => by
    have h : Except.ok s = Except.ok s' := h
    injection h with h
    subst h
    exact hq
  | p :: r, s, s', h, hq => by
    by_cases e : Lib.hasSuffix p.t.data.toList [58] = true
    · rw [lnr_suf e] at h
      split at h
      · split at h
        · cases h
        · exact lnr_at r { s with n := s.n + 1, f := upd s.f (lab p.t) (some s.qs.length) } s' h hq
      · cases h
    · rw [lnr_ins (by simpa using e)] at h
      split at h
      · cases h
      · rename_i q l he
        injection h with h
        subst h
        intro x hx
        simp only [List.mem_append, List.mem_map] at hx
        simp only [List.length_append, List.length_singleton]
        rcases hx with hx | ⟨y, _, rfl⟩
        · have := hq x hx
          omega
        · show s.qs.length < _
          omega
theorem rdr_at : ∀ (ls : List ByteArray) (i : Nat) (s s' : Sx), rdR ls i s = .ok s' → (∀ x ∈ s.js, x.1 < s.qs.length) → ∀ x ∈ s'.js, x.1 < s'.qs.length
  | [], i, s, s', h, hq => by
    have h : Except.ok s = Except.ok s' := h
    injection h with h
    subst h
    exact hq
  | l :: ls, i, s, s', h, hq => by
    rw [rdR] at h
    split at h
    · cases h
    · rename_i s1 h1
      exact rdr_at ls (i + 1) s1 s' h (lnr_at _ _ _ h1 hq)
set_option maxHeartbeats 2000000 in
set_option maxRecDepth 1000000 in
theorem rparse_T {w : World} (s : ByteArray) (hs0 : s.size ≤ 9223372036854775807) : Calls Tryz.prog 5 #[.string s] w fun e w' => ∃ v, e = .returned (.tuple #[v, .agg #[.int .i64 (prF (prsR s)).1, .int .i64 (prF (prsR s)).2.1, .int .i64 (prF (prsR s)).2.2]]) ∧ w'.ownsRow w.heap.size 59 11 v (prL (prsR s)).length (icl (prL (prsR s))) ∧ Keeps (fun _ => False) w w' := by
  have hlen : (lns s).length = Lib.countB s ⟨#[10]⟩ + 1 := Lib.splitB_all ⟨#[10]⟩ (by decide) 0 _ s rfl
  have hcl := Lib.countB_le ⟨#[10]⟩ (by decide) s.size s (Nat.le_refl _)
  have hln : (lns s).length ≤ s.size + 1 := by omega
  clear hlen hcl
  have m1 := CL.made w [.int .i64 0, .int .i64 0, .int .i64 0] 30
  have k1 : Keeps (fun _ => False) w (w.alloc (.cells #[.int .i64 0, .int .i64 0, .int .i64 0] 30)) := (Keeps.refl _ w).alloc _
  obtain ⟨W1, hW1⟩ : ∃ W1, W1 = w.alloc (.cells #[.int .i64 0, .int .i64 0, .int .i64 0] 30) := ⟨_, rfl⟩
  have hz1 : W1.heap.size = w.heap.size + 1 := by rw [hW1]; simp
  have m1 : CL W1 w.heap.size [.int .i64 0, .int .i64 0, .int .i64 0] := by rw [hW1]; exact m1
  rw [← hW1] at k1
  by_cases hlong : 4096 < s.size
  · have hle : decide ((4096 : Int) < (s.size : Int)) = true := decide_eq_true (by omega)
    have hle2 : (4096 : Int) < (s.size : Int) := by omega
    have hRES : prsR s = .error (100, 0, 0) := if_pos hlong
    rw [hRES]
    clear hRES hlong hln
    go_enter Tryz.func5, Tryz.ntmps5
    refine wp_seq_k (fun K1 hK1 => ?_)
    have hH1 : Hid _ := hK1
    clear hK1
    go_wp2_with fail
    refine hH1.out _ _ ?_
    clear hH1 K1
    rw [← hW1]
    clear hW1
    go_wp2_with (refine wpList_store_cl rfl 30 _ _ rfl w.heap.size 0 3 _ rfl rfl rfl m1 (by show 3 ≤ 3; decide) iFr (all_oneCell_toArray (by simp [Value.oneCell'])) ?_; intro w5 hc5 k5 hsz5; clear hsz5; have y0 := hc5.c 0 _ rfl; have y1 := hc5.c 1 _ rfl; have y2 := hc5.c 2 _ rfl)
    (try simp only [Exit.inBlock, Exit.then])
    refine bodyPost_ret (v := .tuple #[.slice none 0 0, .agg #[.int .i64 100, .int .i64 0, .int .i64 0]]) (by rw [results_tc rfl]; go_simp) rfl ⟨.slice none 0 0, rfl, ?_, ?_⟩
    · exact ⟨rfl, .inl ⟨rfl, rfl⟩⟩
    · exact k1.trans' k5 (fun _ _ e => e) (fun i hi e => by have e : i = w.heap.size := e; omega)
  · have hle : decide ((4096 : Int) < (s.size : Int)) = false := decide_eq_false (by omega)
    have hle2 : ¬ (4096 : Int) < (s.size : Int) := by omega
    obtain ⟨W2, hW2⟩ : ∃ W2, W2 = W1.alloc (.cells #[.slice none 0 0, .slice none 0 0, .slice none 0 0, .slice none 0 0] 48) := ⟨_, rfl⟩
    have k2 : Keeps (fun _ => False) W1 W2 := by rw [hW2]; exact (Keeps.refl _ W1).alloc _
    have m2 : CL W2 W1.heap.size [.slice none 0 0, .slice none 0 0, .slice none 0 0, .slice none 0 0] := by rw [hW2]; exact CL.made W1 _ _
    have hz2 : W2.heap.size = w.heap.size + 2 := by rw [hW2]; simp; omega
    have hLi := rlines_T W2 s (by omega)
    have hRES : prsR s = match rdR (lns s) 0 ⟨[], 0, lk [], []⟩ with
      | .error e => .error e
      | .ok st => joR st.f st.js st.qs := if_neg hlong
    rw [hRES]
    clear hRES
    have HS : Hid (∀ x ∈ lns s, x.size ≤ s.size) := fun x hx => by have := splitB_size _ s x hx; omega
    go_enter Tryz.func5, Tryz.ntmps5
    refine wp_seq_k (fun K1 hK1 => ?_)
    have hH1 : Hid _ := hK1
    clear hK1
    go_wp2_with fail
    refine hH1.out _ _ ?_
    clear hH1 K1
    rw [← hW1]
    clear hW1
    refine wp_seq_k (fun K1 hK1 => ?_)
    have hH1 : Hid _ := hK1
    clear hK1
    go_wp2_with fail
    refine hH1.out _ _ ?_
    clear hH1 K1
    refine wp_seq_k (fun K1 hK1 => ?_)
    have hH1 : Hid _ := hK1
    clear hK1
    go_wp2_with fail
    refine hH1.out _ _ ?_
    clear hH1 K1
    rw [← hW2]
    clear hW2
    refine wp_seq_k (fun K1 hK1 => ?_)
    have hH1 : Hid _ := hK1
    clear hK1
    go_wp2_with (go_at_call 13; refine hLi.mono ?_; rintro e W3 ⟨v3, rfl, ho3, k3⟩)
    refine hH1.out _ _ ?_
    clear hH1 K1
    obtain ⟨al, capl, rfl⟩ := slice_of_owns ho3
    have K3 : Keeps (fun _ => False) w W3 := (k1.trans k2).trans k3
    have m3 := m2.keep (by show 0 < 4; decide) k3 (fun e => e)
    have f3 := (m1.keep (by show 0 < 3; decide) k2 (fun e => e)).keep (by show 0 < 3; decide) k3 (fun e => e)
    have hz3 := k3.size
    have no : ∀ g, Value.ownBlock (.slice none 0 0) ≠ some g := fun g e => by cases e
    have hY : RY W3 W3.heap.size W1.heap.size (.slice none 0 0) (.slice none 0 0) (.slice none 0 0) (.slice none 0 0) [] [] [] := ⟨m3, ⟨rfl, .inl ⟨rfl, rfl⟩⟩, ⟨rfl, .inl ⟨rfl, rfl⟩⟩, ⟨rfl, .inl ⟨rfl, rfl⟩⟩, ⟨rfl, .inl ⟨rfl, rfl⟩⟩, trivial, fun v hv => by
      simp only [List.mem_cons, List.mem_nil_iff, or_false] at hv
      rcases hv with rfl | rfl | rfl | rfl <;> exact no _, fun g e => absurd e (no g), fun g e => absurd e (no g), fun g e => absurd e (no g)⟩
    rw [hz1] at hY
    refine parse_read (s := s) rfl (by omega) (fun x hx => Nat.le_trans (HS.out x hx) (by omega)) ho3 (fun e => by have := owns_base ho3 _ e; omega) hY f3 (by omega) rfl (fun fl w' e hk => ?_) ?_
    · rw [e]
      refine ⟨.slice none 0 0, rfl, ⟨rfl, .inl ⟨rfl, rfl⟩⟩, K3.trans' hk (fun _ _ e => e) (fun i hi e => by omega)⟩
    · intro st w' cv nv wv uv ns
      iterate 75 intro _
      intro he hy hf hnl hq hjl hk
      have hat := rdr_at _ _ _ _ he (fun x hx => by simp at hx)
      refine parse_join hy hat hjl hnl (f3.keep (by show 0 < 3; decide) hk (fun e => by omega)) (by omega) rfl (fun fl w2 e h2 => ?_) (fun l w2 e ho h2 => ?_)
      · rw [he]
        dsimp only
        rw [hf, e]
        exact ⟨.slice none 0 0, rfl, ⟨rfl, .inl ⟨rfl, rfl⟩⟩, (K3.trans' hk (fun _ _ e => e) (fun i hi e => by omega)).trans' h2 (fun _ _ e => e) (fun i hi e => by omega)⟩
      · rw [he]
        dsimp only
        rw [hf, e]
        refine ⟨cv, rfl, ?_, (K3.trans' hk (fun _ _ e => e) (fun i hi e => by omega)).trans' h2 (fun _ _ e => e) (fun i hi e => by omega)⟩
        exact ⟨ho.1, by
          rcases ho.2 with h | ⟨g, cap, cur, h1, h2, h3⟩
          · exact .inl h
          · exact .inr ⟨g, cap, cur, h1, by omega, h3⟩⟩
end Go.Proofs.YtchbhmolnoggfaaGreatDoor

