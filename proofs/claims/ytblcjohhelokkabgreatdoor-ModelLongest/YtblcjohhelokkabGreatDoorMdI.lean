import Derived.Test.YtblcjohhelokkabGreatDoorMdH
namespace Go.Proofs.YtblcjohhelokkabGreatDoor
open Go.RowKit
attribute [local go_sem] Oper.semAt_some run_store_nf run_store_f
/-- A run at its start. -/
def rs0 : Rs := ⟨fun _ => 0, fun _ => 0, fun _ => 0, 0, 0, 0, 0⟩
/-- A run alone, with so much fuel left and so much used. -/
def gor (l : List Ins) (os : List Int) (gs : List (Bool × Int)) : Nat → Nat → Rs → Rs × Nat
  | 0, c, s => (s, c)
  | f + 1, c, s => if s.oc = 0 then gor l os gs f (c + 1) (mstp os gs (atI l s.pl.toNat) s) else (s, c)
theorem zero_rn : ∃ Z0 : Array Value, (∀ W : World, Sem.run Tryz.prog (zeroValue 79) W = .ok (.agg Z0) W) ∧ ¬ Z0 = #[] ∧ Z0.size = 54 ∧ (Z0.toList = .slice none 0 0 :: .slice none 0 0 :: List.replicate 52 (.int .i64 0)) := ⟨#[.slice none 0 0, .slice none 0 0, .int .i64 0, .int .i64 0, .int .i64 0, .int .i64 0, .int .i64 0, .int .i64 0, .int .i64 0, .int .i64 0, .int .i64 0, .int .i64 0, .int .i64 0, .int .i64 0, .int .i64 0, .int .i64 0, .int .i64 0, .int .i64 0, .int .i64 0, .int .i64 0, .int .i64 0, .int .i64 0, .int .i64 0, .int .i64 0, .int .i64 0, .int .i64 0, .int .i64 0, .int .i64 0, .int .i64 0, .int .i64 0, .int .i64 0, .int .i64 0, .int .i64 0, .int .i64 0, .int .i64 0, .int .i64 0, .int .i64 0, .int .i64 0, .int .i64 0, .int .i64 0, .int .i64 0, .int .i64 0, .int .i64 0, .int .i64 0, .int .i64 0, .int .i64 0, .int .i64 0, .int .i64 0, .int .i64 0, .int .i64 0, .int .i64 0, .int .i64 0, .int .i64 0, .int .i64 0], fun W => by kernel_rfl, by simp, rfl, rfl⟩
theorem two_rn {Z0 : Array Value} {v u : Value} (h : Z0.toList = .slice none 0 0 :: .slice none 0 0 :: List.replicate 52 (.int .i64 0)) : ((Z0.setIfInBounds 0 v).setIfInBounds 1 u).toList = v :: u :: List.replicate 52 (.int .i64 0) := by
  rw [Array.toList_setIfInBounds, Array.toList_setIfInBounds, h]; rfl
theorem rn_one {x : Value} {a b : Option Addr} {n c m d : Nat} (hx : x ∈ Value.slice a n c :: .slice b m d :: List.replicate 52 (.int .i64 0)) : x.oneCell' = true := by
  rcases List.mem_cons.1 hx with rfl | hx
  · rfl
  · rcases List.mem_cons.1 hx with rfl | hx
    · rfl
    · rw [(List.mem_replicate.1 hx).2]; rfl
theorem iRnM : (Tryz.prog.info? 79).map (·.size) = some 54 := by kernel_rfl
theorem RM.of {w : World} {B : Nat} {v u : Value} (h : CL w B (v :: u :: List.replicate 52 (.int .i64 0))) : RM w B v u rs0 := by
  have r : ∀ i, i < 52 → w.cell? ⟨B, 2 + i, none⟩ = some (.int .i64 0) := fun i hi => h.c (2 + i) _ (by rw [show 2 + i = i + 1 + 1 by omega, List.getElem?_cons_succ, List.getElem?_cons_succ, List.getElem?_replicate, if_pos hi])
  exact ⟨h.c 0 _ rfl, h.c 1 _ rfl, fun i hi => r i (by omega), fun i hi => by have := r (16 + i * 2) (by omega); rw [show 2 + (16 + i * 2) = 18 + i * 2 by omega] at this; exact this, fun i hi => by have := r (16 + i * 2 + 1) (by omega); rw [show 2 + (16 + i * 2 + 1) = 18 + i * 2 + 1 by omega] at this; exact this, r 48 (by omega), r 49 (by omega), r 50 (by omega), r 51 (by omega), fun j hj => h.z j (by simp; omega)⟩
theorem doneI_can (n : Nat) : doneI.can n = true := by
  unfold doneI ins0 Ins.can kdD kdR kdL kdO kdX kdY btw fts opk
  simp
theorem atI_can {l : List Ins} (hcan : ∀ p, p < l.length → (l.getD p ins0).can l.length = true) {p : Nat} (hp : p ≤ l.length) : (atI l p).can l.length = true := by
  unfold atI
  split
  · exact doneI_can _
  · exact hcan p (by omega)
/-- Behind an instruction: the place is within, or the run has ended. -/
theorem mstp_in {l : List Ins} (os : List Int) (gs : List (Bool × Int)) {s : Rs} (hcan : ∀ p, p < l.length → (l.getD p ins0).can l.length = true) (hp : 0 ≤ s.pl ∧ s.pl ≤ l.length) : (mstp os gs (atI l s.pl.toNat) s).oc = 0 → 0 ≤ (mstp os gs (atI l s.pl.toNat) s).pl ∧ (mstp os gs (atI l s.pl.toNat) s).pl ≤ l.length := by
  intro h0
  by_cases e : s.pl = l.length
  · have : atI l s.pl.toNat = doneI := if_pos (by omega)
    rw [this] at h0
    cases h0
  · exact mstp_pl os gs _ s (atI_can hcan (by omega)) ⟨hp.1, by omega⟩
theorem DoS.to {w : World} {B : Nat} {a ag : Option Addr} {cap cg : Nat} {os : List Int} {gs : List (Bool × Int)} {s : Rs} (m : RM w B (.slice a os.length cap) (.slice ag gs.length cg) s) (o : OBJ w B a os) (g : GIV w B ag gs) (n : os.length ≤ 16) (r : s.rd < 1000000) (p : 0 ≤ s.pl ∧ s.pl ≤ 64) : DoS w B a ag cap cg os gs s := ⟨m, o, g, n, r, p⟩
/-- Numbers in memory, anywhere below a size. -/
def NUM (w : World) (a : Option Addr) (os : List Int) : Prop := ∀ i x, os[i]? = some x → ∃ b off, a = some ⟨b, off, none⟩ ∧ w.cell? ⟨b, off + i, none⟩ = some (.int .i64 x)
def GVN (w : World) (a : Option Addr) (gs : List (Bool × Int)) : Prop := ∀ i x, gs[i]? = some x → ∃ b off, a = some ⟨b, off, none⟩ ∧ w.cell? ⟨b, off + i * 2, none⟩ = some (.bool x.1) ∧ w.cell? ⟨b, off + i * 2 + 1, none⟩ = some (.int .i64 x.2)
theorem NUM.obj {w w' : World} {a : Option Addr} {os : List Int} (h : NUM w a os) {S : Nat → Prop} (k : Keeps S w w') (hS : ∀ i, i < w.heap.size → ¬ S i) {B : Nat} (hB : w.heap.size ≤ B) : OBJ w' B a os := fun i x hx => by
  obtain ⟨b, off, e, hc⟩ := h i x hx
  have hl := World.block_lt_of_cell? _ _ hc
  have hl : b < w.heap.size := hl
  exact ⟨b, off, e, by omega, k.cell hc (hS b hl)⟩
theorem GVN.giv {w w' : World} {a : Option Addr} {gs : List (Bool × Int)} (h : GVN w a gs) {S : Nat → Prop} (k : Keeps S w w') (hS : ∀ i, i < w.heap.size → ¬ S i) {B : Nat} (hB : w.heap.size ≤ B) : GIV w' B a gs := fun i x hx => by
  obtain ⟨b, off, e, hc, hd⟩ := h i x hx
  have hl : b < w.heap.size := World.block_lt_of_cell? _ _ hc
  exact ⟨b, off, e, by omega, k.cell hc (hS b hl), k.cell hd (hS b hl)⟩
theorem ISL.keepS {w w' : World} {a : Option Addr} {l : List Ins} (h : ISL w a l) {S : Nat → Prop} (k : Keeps S w w') (hS : ∀ i, i < w.heap.size → ¬ S i) : ISL w' a l := fun i hi => by
  obtain ⟨b, off, e, hc⟩ := h i hi
  have hl : b < w.heap.size := World.block_lt_of_cell? _ _ (hc 0 _ rfl)
  exact ⟨b, off, e, fun j v hv => k.cell (hc j v hv) (hS b hl)⟩
/-- What a run alone answers. -/
def AN (w w' : World) (os : List Int) (F : Rs × Nat) (v : Value) : Prop := ∃ b, w.heap.size ≤ b ∧ v = .agg #[.int .i64 F.1.oc, .int .i64 F.1.rs, .slice (some ⟨b, 0, none⟩) os.length os.length, .int .i64 (F.2 : Int)] ∧ CL w' b (nvs (lft os F.1 os.length)) ∧ b < w'.heap.size
set_option maxHeartbeats 1600000 in
set_option maxRecDepth 1000000 in
theorem alone_any {w : World} {a ao ag : Option Addr} {cap co cg : Nat} {l : List Ins} {os : List Int} {gs : List (Bool × Int)} (hl : ISL w a l) (h64 : l.length ≤ 64) (hcan : ∀ p, p < l.length → (l.getD p ins0).can l.length = true) (hO : NUM w ao os) (hG : GVN w ag gs) (h16 : os.length ≤ 16) (fuel : Nat) (hf : fuel ≤ 10000) : Calls Tryz.prog 15 #[.slice a l.length cap, .slice ao os.length co, .slice ag gs.length cg, .int .i64 (fuel : Int)] w fun e w' => ∃ v, e = .returned v ∧ AN w w' os (gor l os gs fuel 0 rs0) v ∧ Keeps (fun _ => False) w w' := by
  obtain ⟨Z0, hz0, zn, zs, zl⟩ := zero_rn
  have ZL : Hid (_ = _) := zl
  have ZS : Hid (_ = _) := zs
  have z2 : ¬ Z0.size < 2 := by omega
  clear zl zs
  obtain ⟨W1, hW1⟩ : ∃ W1, W1 = w.alloc (.cells #[.int .i64 0, .int .i64 0, .slice none 0 0, .int .i64 0] 33) := ⟨_, rfl⟩
  have K1 : Keeps (fun _ => False) w W1 := by rw [hW1]; exact (Keeps.refl _ w).alloc _
  have C1 : CL W1 w.heap.size [.int .i64 0, .int .i64 0, .slice none 0 0, .int .i64 0] := by rw [hW1]; exact CL.made w _ _
  have s1 : W1.heap.size = w.heap.size + 1 := by rw [hW1]; simp
  obtain ⟨W4, hW4⟩ : ∃ W4, W4 = W1.alloc (.cells Z0 79) := ⟨_, rfl⟩
  have HW1 : Hid (_ = _) := hW1
  have HW4 : Hid (_ = _) := hW4
  have k4 : Keeps (fun _ => False) W1 W4 := (by rw [HW4.out]; exact (Keeps.refl _ W1).alloc _)
  have hU4 : CL W4 (w.heap.size + 1) (.slice none 0 0 :: .slice none 0 0 :: List.replicate 52 (.int .i64 0)) := (by rw [HW4.out, ← ZL.out, ← s1]; have := CL.made W1 Z0.toList 79; rw [Array.toArray_toList] at this; exact this)
  clear hW1 hW4
  generalize hFe : gor l os gs fuel 0 rs0 = F
  have HF : Hid (_ = _) := hFe
  clear hFe
  go_enter Tryz.func15, Tryz.ntmps15
  go_wp2_with (rw [← HW1.out, ← HW4.out]; clear HW1 HW4; refine wpList_store_cl rfl 79 _ _ rfl (w.heap.size + 1) 0 54 _ rfl rfl (by rw [Array.size_setIfInBounds, Array.size_setIfInBounds]; exact ZS.out) hU4 (by show 54 ≤ 54; decide) iRnM (by simp only [Array.all_eq_true']; intro x hx; rw [← Array.mem_toList_iff, two_rn ZL.out] at hx; exact rn_one hx) ?_; intro w5 hc5 k5 hsz5; clear hsz5)
  have hb5 := RM.of (v := .slice ao os.length co) (u := .slice ag gs.length cg) (w := w5) (B := w.heap.size + 1) (by have := hc5; rw [two_rn ZL.out] at this; exact this)
  have K5 : Keeps (fun k => k = w.heap.size + 1) w w5 := ((K1.trans k4).mono (fun _ _ e => e.elim)).trans k5
  have CR5 : CL w5 w.heap.size [.int .i64 0, .int .i64 0, .slice none 0 0, .int .i64 0] := (C1.keep (by show 0 < 4; decide) k4 (fun e => e)).keep (by show 0 < 4; decide) k5 (by show ¬ w.heap.size = w.heap.size + 1; omega)
  clear hc5 k5 hU4 k4 C1 K1 s1 hz0 zn z2 ZL ZS
  go_loopg [10] fuel (fun g iv Wr => ∃ (c : Nat) (s : Rs), c + g = fuel ∧ iv = .int .i64 (c : Int) ∧ Hid (gor l os gs g c s = F) ∧ RM Wr (w.heap.size + 1) (.slice ao os.length co) (.slice ag gs.length cg) s ∧ s.rd ≤ c ∧ (s.oc = 0 → 0 ≤ s.pl ∧ s.pl ≤ l.length) ∧ CL Wr w.heap.size [.int .i64 0, .int .i64 0, .slice none 0 0, .int .i64 0] ∧ Keeps (fun k => k = w.heap.size + 1) w Wr)
  case atStart => exact ⟨0, rs0, by omega, rfl, HF, hb5, Nat.le_refl _, fun _ => ⟨by decide, by show (0 : Int) ≤ _; omega⟩, CR5, K5⟩
  case round =>
    obtain ⟨c, s, hcg, rfl, HG, hM, hrd, hpl, CR, KW⟩ := hrel
    clear hb5 K5 CR5 HF
    have hOw := hO.obj KW (by intro i hi e; have e : i = w.heap.size + 1 := e; omega) (B := w.heap.size + 1) (by omega)
    have hGw := hG.giv KW (by intro i hi e; have e : i = w.heap.size + 1 := e; omega) (B := w.heap.size + 1) (by omega)
    have hl2 := hl.keepS KW (by intro i hi e; have e : i = w.heap.size + 1 := e; omega)
    have hO2 := hO
    clear hO hG hl
    have c52 := hM.c
    cases gk with
    | zero =>
      have hcI : decide ((c : Int) < (fuel : Int)) = false := by simp; omega
      have hF : (s, c) = F := HG.out
      subst hF
      clear HG hpl c52 hGw
      clear hcan hO2 hl2
      have hD := hM.keep (S := fun _ => False) (Keeps.refl _ wr).drew (fun e => e)
      have hle := left_any hD (hOw.keep (Keeps.refl _ wr).drew) h16
      have e52 := hD.c
      have e53 := hD.u
      have e52' := hM.c
      have e53' := hM.u
      have szr := KW.size
      have ltr := hM.lt
      go_wp2_with fail
      go_region_held3 (fun w' => w'.cell? ⟨w.heap.size + 1, 52, none⟩ = some (.int .i64 s.oc) ∧ w'.cell? ⟨w.heap.size + 1, 53, none⟩ = some (.int .i64 s.rs)) (go_keep) (first | (go_at_call 25; refine hle.mono ?_; clear hle; rintro e w6 ⟨rfl, C6, k6, s6⟩; have K6 := (Keeps.refl (fun _ => False) wr).drew.trans k6; have g52 := K6.cell e52' (fun e => e); have g53 := K6.cell e53' (fun e => e); have C8 := CR.keep (by show 0 < 4; decide) K6 (fun e => e); have y0 := C8.c 0 _ rfl; have y1 := C8.c 1 _ rfl; have y2 := C8.c 2 _ rfl; have y3 := C8.c 3 _ rfl; have x0 := C8.z 0 (by show 0 < 4; decide); have x1 := C8.z 1 (by show 1 < 4; decide); have x2 := C8.z 2 (by show 2 < 4; decide); have x3 := C8.z 3 (by show 3 < 4; decide)))
      all_goals
        go_wp2_with fail
        refine bodyPost_ret (v := .agg #[.int .i64 s.oc, .int .i64 s.rs, .slice (some ⟨wr.heap.size, 0, none⟩) os.length os.length, .int .i64 (c : Int)]) (by rw [results_cellm rfl]; go_simp) rfl ⟨_, rfl, ⟨wr.heap.size, by omega, rfl, ?_, ?_⟩, ?_⟩
        · have C6 : CL w6 wr.heap.size (nvs (lft os s os.length)) := C6
          exact (((C6.other (by show w.heap.size ≠ wr.heap.size; omega) _).other (by show w.heap.size ≠ wr.heap.size; omega) _).other (by show w.heap.size ≠ wr.heap.size; omega) _).other (by show w.heap.size ≠ wr.heap.size; omega) _
        · have s6' : w6.heap.size = wr.heap.size + 1 := s6
          simp; omega
        · have KX : Keeps (fun _ => False) w w6 := (KW.trans' K6 (fun i hi e => by have e : i = w.heap.size + 1 := e; omega) (fun _ _ e => e))
          exact (((KX.setCell (fun h => absurd h (Nat.lt_irrefl _)) _).setCell (fun h => absurd h (Nat.lt_irrefl _)) _).setCell (fun h => absurd h (Nat.lt_irrefl _)) _).setCell (fun h => absurd h (Nat.lt_irrefl _)) _
    | succ g =>
      have hcI : decide ((c : Int) < (fuel : Int)) = true := by simp; omega
      by_cases hoc : s.oc = 0
      · rw [hoc] at c52
        have hG2 : Hid (gor l os gs g (c + 1) (mstp os gs (atI l s.pl.toNat) s) = F) := by
          have : (if s.oc = 0 then gor l os gs g (c + 1) (mstp os gs (atI l s.pl.toNat) s) else (s, c)) = F := HG.out
          rw [if_pos hoc] at this
          exact this
        have hq := hpl hoc
        have hin := mstp_in os gs hcan hq
        have hrd2 := mstp_rd os gs (atI l s.pl.toNat) s
        obtain ⟨p, hp⟩ : ∃ p : Nat, s.pl = (p : Int) := ⟨s.pl.toNat, by omega⟩
        have hpn : s.pl.toNat = p := by omega
        rw [hpn] at hin hrd2 hG2
        have hqc := atI_can hcan (p := p) (by omega)
        have hat := at_any (cap := cap) hl2 p (by omega)
        have c51 := hM.p
        rw [hp] at c51
        have hw1 : IntKind.i64.wrap ((c : Int) + 1) = (c : Int) + 1 := by rw [IntKind.wrap_i64]; omega
        generalize atI l p = q at *
        clear hpl HG hpn hcan
        go_wp2_with (first | (go_at_call 24; refine hat.mono ?_; clear hat; rintro e w2 ⟨rfl, k2⟩; have hdo := do_any (.to (hM.keep k2 (fun e => e)) (hOw.keep (k2.mono (fun _ _ e => e.elim))) (hGw.keep (k2.mono (fun _ _ e => e.elim))) h16 (by omega) (by omega)) q hqc) | (go_at_call 23; refine hdo.mono ?_; clear hdo; rintro e w3 ⟨rfl, H3, k3⟩))
        go_roundg g
        case measure => omega
        case rel => exact ⟨c + 1, mstp os gs q s, by omega, by go_num, hG2, H3, by omega, hin, (CR.keep (by show 0 < 4; decide) k2 (fun e => e)).keep (by show 0 < 4; decide) k3 (by show ¬ w.heap.size = w.heap.size + 1; omega), (KW.trans (k2.mono (fun _ _ e => e.elim))).trans k3⟩
      · have hb : (s.oc == 0) = false := by simpa using hoc
        have hF : (s, c) = F := by
          have : (if s.oc = 0 then gor l os gs g (c + 1) (mstp os gs (atI l s.pl.toNat) s) else (s, c)) = F := HG.out
          rw [if_neg hoc] at this
          exact this
        subst hF
        clear HG hpl hGw
        clear hcan hO2 hl2
        have hD := hM.keep (S := fun _ => False) (Keeps.refl _ wr).drew (fun e => e)
        have hle := left_any hD (hOw.keep (Keeps.refl _ wr).drew) h16
        have e52 := hD.c
        have e53 := hD.u
        have e52' := hM.c
        have e53' := hM.u
        have szr := KW.size
        have ltr := hM.lt
        go_wp2_with fail
        go_region_held3 (fun w' => w'.cell? ⟨w.heap.size + 1, 52, none⟩ = some (.int .i64 s.oc) ∧ w'.cell? ⟨w.heap.size + 1, 53, none⟩ = some (.int .i64 s.rs)) (go_keep) (first | (go_at_call 25; refine hle.mono ?_; clear hle; rintro e w6 ⟨rfl, C6, k6, s6⟩; have K6 := (Keeps.refl (fun _ => False) wr).drew.trans k6; have g52 := K6.cell e52' (fun e => e); have g53 := K6.cell e53' (fun e => e); have C8 := CR.keep (by show 0 < 4; decide) K6 (fun e => e); have y0 := C8.c 0 _ rfl; have y1 := C8.c 1 _ rfl; have y2 := C8.c 2 _ rfl; have y3 := C8.c 3 _ rfl; have x0 := C8.z 0 (by show 0 < 4; decide); have x1 := C8.z 1 (by show 1 < 4; decide); have x2 := C8.z 2 (by show 2 < 4; decide); have x3 := C8.z 3 (by show 3 < 4; decide)))
        all_goals
          go_wp2_with fail
          refine bodyPost_ret (v := .agg #[.int .i64 s.oc, .int .i64 s.rs, .slice (some ⟨wr.heap.size, 0, none⟩) os.length os.length, .int .i64 (c : Int)]) (by rw [results_cellm rfl]; go_simp) rfl ⟨_, rfl, ⟨wr.heap.size, by omega, rfl, ?_, ?_⟩, ?_⟩
          · have C6 : CL w6 wr.heap.size (nvs (lft os s os.length)) := C6
            exact (((C6.other (by show w.heap.size ≠ wr.heap.size; omega) _).other (by show w.heap.size ≠ wr.heap.size; omega) _).other (by show w.heap.size ≠ wr.heap.size; omega) _).other (by show w.heap.size ≠ wr.heap.size; omega) _
          · have s6' : w6.heap.size = wr.heap.size + 1 := s6
            simp; omega
          · have KX : Keeps (fun _ => False) w w6 := (KW.trans' K6 (fun i hi e => by have e : i = w.heap.size + 1 := e; omega) (fun _ _ e => e))
            exact (((KX.setCell (fun h => absurd h (Nat.lt_irrefl _)) _).setCell (fun h => absurd h (Nat.lt_irrefl _)) _).setCell (fun h => absurd h (Nat.lt_irrefl _)) _).setCell (fun h => absurd h (Nat.lt_irrefl _)) _
end Go.Proofs.YtblcjohhelokkabGreatDoor
