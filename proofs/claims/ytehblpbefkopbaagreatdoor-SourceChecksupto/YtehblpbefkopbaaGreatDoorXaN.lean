import Derived.Test.YtehblpbefkopbaaGreatDoorXaM
namespace Go.Proofs.YtehblpbefkopbaaGreatDoor
open Go.RowKit Go.ChangeShapes Go.WideShapes Go.ChangeAt Go.Deep
attribute [local go_sem] Oper.semAt_some run_store_nf run_store_f
/-- How much a reader has still to read. -/
def mR (r : Nat) (W : World) : Nat := match W.cell? ⟨r, 1, none⟩ with
  | some v => slen v
  | none => 0
theorem mR_eq {W : World} {r : Nat} {T R : Bs} (h : RdM W r T R) : mR r W = R.length := by
  unfold mR
  rw [h.c.c 1 _ rfl]
  rfl
/-- An expression on its way, in a box. -/
structure ExL (w : World) (r : Nat) (T : Bs) (bx : Nat) (Wr : World) (tt : Tr) (Rc : Bs) (k n : Int) (s : ByteArray) (p : Option Addr) (m c : Nat) : Prop where
  b : CL Wr bx [.int .i64 k, .int .i64 n, .string s, .slice p m c]
  t : TC Wr (fun g => w.heap.size < g ∧ g ≠ bx) 35 tt [.int .i64 k, .int .i64 n, .string s, .slice p m c]
  h : RdM Wr r T Rc
  kk : Keeps (fun k => k = r) w Wr
  m : CL Wr w.heap.size zE
  lo : w.heap.size < bx
theorem ExL.keep {w : World} {r : Nat} {T : Bs} {bx : Nat} {Wr W' : World} {tt : Tr} {Rc : Bs} {k n : Int} {s : ByteArray} {p : Option Addr} {m c : Nat} (e : ExL w r T bx Wr tt Rc k n s p m c) (k' : Keeps (fun _ => False) Wr W') : ExL w r T bx W' tt Rc k n s p m c :=
  ⟨e.b.keep (by show 0 < 4; decide) k' (fun e => e), e.t.stay (k'.stay (fun _ _ _ e => e)), e.h.keep k' (fun _ _ e => e) (fun e => e), e.kk.trans (k'.mono (fun _ _ e => e.elim)), e.m.keep (by show 0 < 4; decide) k' (fun e => e), e.lo⟩
theorem ExL.go {w : World} {r : Nat} {T : Bs} {bx : Nat} {Wr W' : World} {tt : Tr} {Rc R' : Bs} {k n : Int} {s : ByteArray} {p : Option Addr} {m c : Nat} (e : ExL w r T bx Wr tt Rc k n s p m c) (k' : Keeps (fun i => i = r) Wr W') (h' : RdM W' r T R') (hr : r < w.heap.size) : ExL w r T bx W' tt R' k n s p m c :=
  ⟨e.b.keep (by show 0 < 4; decide) k' (fun q => by have := e.lo; omega), e.t.stay (k'.stay (fun i hi _ q => by have := hi.1; omega)), h', e.kk.trans k', e.m.keep (by show 0 < 4; decide) k' (fun q => by omega), e.lo⟩
set_option maxHeartbeats 2000000 in
set_option maxRecDepth 100000 in
theorem ex_w {d : Nat} (IH : ∀ d', d' ≤ d → CE d') {w : World} {r : Nat} {T R : Bs} {least : Nat} (h : RdM w r T R) (hd : 10 * R.length + 5 ≤ d + 1) (hl1 : 1 ≤ least) (hl2 : least ≤ 9) : Calls Tryz.prog 48 #[pR r, .int .i64 (least : Nat)] w (RetE (ex (d + 1) least R) w r T) := by
  have hr := h.lt
  have hr12 : ∀ i, i < 12 → ¬ i = r := fun i hi e => by have := h.low; omega
  have nb : ¬ w.heap.size = r := by omega
  have y2 : ∀ ob, (w.alloc ob).cell? ⟨r, 2, none⟩ = some (.string (bs (tok R))) := fun ob => ((Keeps.refl (fun _ => False) w).alloc ob).cell (h.c.c 2 _ rfl) (fun e => e)
  have hA := fun ob => h.keep ((Keeps.refl (fun _ => False) w).alloc ob) (fun _ _ e => e) (fun e => e)
  have m0 := CL.made w zE 35
  have hS0 := fun W (h : RdM W r T R) => (IH d (Nat.le_refl _)).opd W r T R h (by omega)
  rw [ex]
  clear y2
  cases hn0 : opd d R with
  | error E =>
    rw [hn0] at hS0
    show Calls _ _ _ _ (fun e w' => e = panT T E ∧ Keeps (fun k => k = r) w w')
    go_enter Tryz.func48, Tryz.ntmps48
    go_wp2_with (go_at_call 70; refine (hS0 _ (hA _)).mono ?_; rintro e w1 ⟨rfl, k1⟩)
    exact ⟨rfl, rfl, ((Keeps.refl _ w).alloc _).trans k1⟩
  | ok z0 =>
    obtain ⟨t0, R1⟩ := z0
    rw [hn0] at hS0
    have hl0 := (rd_lt d).2.2.1 _ _ _ hn0
    show Calls _ _ _ _ (RetE (lp d t0 7 least R1) w r T)
    obtain ⟨RES, hRES⟩ : ∃ RES, RES = lp d t0 7 least R1 := ⟨_, rfl⟩
    rw [← hRES]
    have HR0 : Hid (RES = lp d t0 7 least R1) := hRES
    clear hRES hn0
    go_enter Tryz.func48, Tryz.ntmps48
    go_wp2_with (first | (go_at_call 70; refine (hS0 _ (hA _)).mono ?_; rintro e w1 ⟨k, n, s, p, m, c, rfl, u0, h1, k1⟩; have z1 := k1.size; simp only [World.size_alloc] at z1; have K1 : Keeps (fun k => k = r) w w1 := ((Keeps.refl _ w).alloc _).trans k1; have M1 := m0.keep (by show 0 < 4; decide) k1 nb; have T1 : TC w1 (fun g => w.heap.size < g) 35 t0 [.int .i64 k, .int .i64 n, .string s, .slice p m c] := u0.mono (fun g hg => (by simp only [World.size_alloc] at hg; omega))) | (refine wpList_store_cl rfl 35 _ _ rfl w1.heap.size 0 4 _ rfl rfl rfl (CL.made w1 zE 35) (by show 4 ≤ 4; decide) iEx one4 ?_; intro w2 hb2 k2 zz2; clear zz2))
    have L0 : Hid (ExL w r T w1.heap.size w2 t0 R1 k n s p m c) := by
      have kk2 : Keeps (fun i => i = w1.heap.size) w1 w2 := ((Keeps.refl _ w1).alloc _).trans k2
      exact ⟨hb2, ((T1.lt.stay (alloc_stay _ _)).stay (k2.stay (fun i hi _ e => by have := hi.2; omega))).mono (fun g hg => ⟨hg.1, by omega⟩), h1.keep kk2 (fun i hi e => by have := h1.low; omega) (fun e => by omega), K1.trans' kk2 (fun _ _ e => e) (fun i hi e => by omega), M1.keep (by show 0 < 4; decide) kk2 (fun e => by omega), by omega⟩
    clear hb2 T1 h1 K1 M1 k2 u0 k1 hS0 hA m0
    go_loopw [6] (fun iv Wr => ∃ (dd str : Nat) (tt : Tr) (Rc : Bs) (k n : Int) (s : ByteArray) (p : Option Addr) (m c : Nat), iv = .int .i64 (str : Int) ∧ str ≤ 7 ∧ RES = lp dd tt str least Rc ∧ 10 * Rc.length + 8 ≤ dd ∧ dd ≤ d ∧ ExL w r T w1.heap.size Wr tt Rc k n s p m c) (fun _ Wr => mR r Wr)
    case atStart => exact ⟨d, 7, t0, R1, k, n, s, p, m, c, rfl, by omega, HR0.out, by omega, Nat.le_refl _, L0.out⟩
    case round =>
      clear L0 HR0 hl0
      obtain ⟨dd, str, tt, Rc, k, n, s, p, m, c, rfl, hst, hRE, hdd, hdl, hL⟩ := hrel
      obtain ⟨dd, rfl⟩ : ∃ q, dd = q + 1 := ⟨dd - 1, by omega⟩
      rw [lp] at hRE
      have hB := fun W (hG : SG W) => binding_any (tok Rc) hG
      have hTok := tok_rl hL.h
      have zbx : w1.heap.size < wr.heap.size := hL.b.lt (by show 0 < 4; decide)
      have zww : w.heap.size ≤ wr.heap.size := hL.kk.size
      have hne : ¬ (bnd (tok Rc)).1 < least → tok Rc ≠ [] := fun hh e => hh (by rw [e, bnd_nil]; exact hl1)
      have y2 := hL.h.c.c 2 _ rfl
      have hle := bnd_le (tok Rc)
      obtain ⟨s1, hs1⟩ : ∃ s1, s1 = (bnd (tok Rc)).1 := ⟨_, rfl⟩
      obtain ⟨s2, hs2⟩ : ∃ s2, s2 = (bnd (tok Rc)).2 := ⟨_, rfl⟩
      rw [← hs1, ← hs2] at hRE hle
      rw [← hs1] at hne
      rw [← hs1, ← hs2] at hB
      clear hs1 hs2
      by_cases hc1 : s1 < least
      · have HR : Hid (RES = .ok (tt, Rc)) := by show _ = _; rw [hRE, if_pos (.inl hc1)]
        have d1 : decide ((s1 : Int) < (least : Int)) = true := decide_eq_true (by omega)
        have d2 : decide (s1 < least) = true := decide_eq_true hc1
        clear hRE hne
        go_wp2_with (first | (go_at_call 71; refine (hB _ hL.h.g).mono ?_; rintro e wa ⟨sb, rfl, ka⟩) | (refine wpList_store_cl rfl 110 _ _ rfl wa.heap.size 0 3 _ rfl rfl rfl (CL.made wa zB 110) (by show 3 ≤ 3; decide) iBd one3 ?_; intro wb cb kb zb; clear zb; have zab := ka.size; have kab : Keeps (fun _ => False) wr wb := (ka.alloc _).trans' kb (fun _ _ e => e) (fun i hi e => (by omega)); have L2 := hL.keep kab; have cb : CL wb wa.heap.size [.string sb, .int .i64 (s1 : Int), .int .i64 (s2 : Int)] := cb; have x1 := cb.c 1 _ rfl; have x2 := cb.c 2 _ rfl) | (refine wpList_load_runL rfl 35 _ rfl ⟨w1.heap.size, 0, none⟩ rfl _ (run_ex L2.b) ?_) | (refine wpList_store_cl rfl 35 _ _ rfl w.heap.size 0 4 _ rfl rfl rfl L2.m (by show 4 ≤ 4; decide) iEx one4 ?_; intro w9 hc9 k9 zz9; clear zz9))
        have hc6 : CL w9 w.heap.size [.int .i64 k, .int .i64 n, .string s, .slice p m c] := hc9
        have hrn := run_ex hc6
        refine bodyPost_ret (v := .agg #[.int .i64 k, .int .i64 n, .string s, .slice p m c]) (by rw [results_cell1 rfl]; simp [asAddr, hrn]) rfl ?_
        rw [HR.out]
        exact ⟨_, _, _, _, _, _, rfl, (L2.t.stay (k9.stay (fun i hi _ e => by have := hi.1; omega))).mono (fun g hg => by have := hg.1; omega), L2.h.keep k9 (fun i hi e => by have := hL.h.low; omega) (fun e => by omega), L2.kk.trans' k9 (fun _ _ e => e) (fun i hi e => by omega)⟩
      · have d1 : decide ((s1 : Int) < (least : Int)) = false := decide_eq_false (by omega)
        have d2 : decide (s1 < least) = false := decide_eq_false hc1
        by_cases hc2 : str < s2
        · have HR : Hid (RES = .ok (tt, Rc)) := by show _ = _; rw [hRE, if_pos (.inr hc2)]
          have d3 : decide ((str : Int) < (s2 : Int)) = true := decide_eq_true (by omega)
          have d4 : decide (str < s2) = true := decide_eq_true hc2
          clear hRE hne
          go_wp2_with (first | (go_at_call 71; refine (hB _ hL.h.g).mono ?_; rintro e wa ⟨sb, rfl, ka⟩) | (refine wpList_store_cl rfl 110 _ _ rfl wa.heap.size 0 3 _ rfl rfl rfl (CL.made wa zB 110) (by show 3 ≤ 3; decide) iBd one3 ?_; intro wb cb kb zb; clear zb; have zab := ka.size; have kab : Keeps (fun _ => False) wr wb := (ka.alloc _).trans' kb (fun _ _ e => e) (fun i hi e => (by omega)); have L2 := hL.keep kab; have cb : CL wb wa.heap.size [.string sb, .int .i64 (s1 : Int), .int .i64 (s2 : Int)] := cb; have x1 := cb.c 1 _ rfl; have x2 := cb.c 2 _ rfl) | (refine wpList_load_runL rfl 35 _ rfl ⟨w1.heap.size, 0, none⟩ rfl _ (run_ex L2.b) ?_) | (refine wpList_store_cl rfl 35 _ _ rfl w.heap.size 0 4 _ rfl rfl rfl L2.m (by show 4 ≤ 4; decide) iEx one4 ?_; intro w9 hc9 k9 zz9; clear zz9))
          have hc6 : CL w9 w.heap.size [.int .i64 k, .int .i64 n, .string s, .slice p m c] := hc9
          have hrn := run_ex hc6
          refine bodyPost_ret (v := .agg #[.int .i64 k, .int .i64 n, .string s, .slice p m c]) (by rw [results_cell1 rfl]; simp [asAddr, hrn]) rfl ?_
          rw [HR.out]
          exact ⟨_, _, _, _, _, _, rfl, (L2.t.stay (k9.stay (fun i hi _ e => by have := hi.1; omega))).mono (fun g hg => by have := hg.1; omega), L2.h.keep k9 (fun i hi e => by have := hL.h.low; omega) (fun e => by omega), L2.kk.trans' k9 (fun _ _ e => e) (fun i hi e => by omega)⟩
        · have d3 : decide ((str : Int) < (s2 : Int)) = false := decide_eq_false (by omega)
          have d4 : decide (str < s2) = false := decide_eq_false hc2
          rw [if_neg (fun e => e.elim hc1 hc2)] at hRE
          have hne := hne hc1
          cases hn : nxt Rc with
          | error E =>
            have hTk := fun W (h : RdM W r T Rc) => take_no h hn
            have HR : Hid (RES = .error E) := by show _ = _; rw [hRE, hn]; rfl
            clear hRE hn
            go_wp2_with (first | (go_at_call 71; refine (hB _ hL.h.g).mono ?_; rintro e wa ⟨sb, rfl, ka⟩) | (refine wpList_store_cl rfl 110 _ _ rfl wa.heap.size 0 3 _ rfl rfl rfl (CL.made wa zB 110) (by show 3 ≤ 3; decide) iBd one3 ?_; intro wb cb kb zb; clear zb; have zab := ka.size; have kab : Keeps (fun _ => False) wr wb := (ka.alloc _).trans' kb (fun _ _ e => e) (fun i hi e => (by omega)); have L2 := hL.keep kab; have cb : CL wb wa.heap.size [.string sb, .int .i64 (s1 : Int), .int .i64 (s2 : Int)] := cb; have x1 := cb.c 1 _ rfl; have x2 := cb.c 2 _ rfl) | (go_at_call 72; refine (hTk _ L2.h).mono ?_; rintro e wc ⟨rfl, kc⟩))
            have fin : RetE RES w r T (panT T E) wc := by rw [HR.out]; exact ⟨rfl, L2.kk.trans kc⟩
            exact ⟨rfl, fin⟩
          | ok R2 =>
            have hTk := fun W (h : RdM W r T Rc) => take_ok h hn
            have hl2 := nxt_lt hn hne
            rw [hn] at hRE
            clear hn
            have hX := fun W (h : RdM W r T R2) => (IH dd (by omega)).ex W r T R2 (s1 + 1) h (by omega) (by omega) (by omega)
            rw [show ((s1 + 1 : Nat) : Int) = (s1 : Int) + 1 from by omega] at hX
            have hs1 : (s1 : Int) + 1 ≤ 9223372036854775807 := by omega
            have hw : IntKind.i64.wrap ((s1 : Int) + 1) = (s1 : Int) + 1 := by rw [IntKind.wrap_i64]; omega
            cases hx : ex dd (s1 + 1) R2 with
            | error E =>
              rw [hx] at hX
              have HR : Hid (RES = .error E) := by show _ = _; rw [hRE]; dsimp only [thr, thn]; rw [hx]
              clear hRE hx
              go_wp2_with (first | (go_at_call 71; refine (hB _ hL.h.g).mono ?_; rintro e wa ⟨sb, rfl, ka⟩) | (refine wpList_store_cl rfl 110 _ _ rfl wa.heap.size 0 3 _ rfl rfl rfl (CL.made wa zB 110) (by show 3 ≤ 3; decide) iBd one3 ?_; intro wb cb kb zb; clear zb; have zab := ka.size; have kab : Keeps (fun _ => False) wr wb := (ka.alloc _).trans' kb (fun _ _ e => e) (fun i hi e => (by omega)); have L2 := hL.keep kab; have cb : CL wb wa.heap.size [.string sb, .int .i64 (s1 : Int), .int .i64 (s2 : Int)] := cb; have x1 := cb.c 1 _ rfl; have x2 := cb.c 2 _ rfl) | (go_at_call 72; refine (hTk _ L2.h).mono ?_; rintro e wc ⟨rfl, hc, kc⟩; have L3 := L2.go kc hc hr; have zc := kc.size; have zb2 := kab.size; have x1c := (cb.keep (by show 0 < 3; decide) kc (fun e => (by have := hL.kk.size; omega))).c 1 _ rfl; clear x1 x2))
              have kd : Keeps (fun _ => False) wc wc.drew := (Keeps.refl _ wc).drew
              have L4 := L3.keep kd
              have x1d := kd.cell x1c (fun e => e)
              have hXd := hX wc.drew L4.h
              refine wp_region_held_drew (S := fun W => W.cell? ⟨wa.heap.size, 1, none⟩ = some (.int .i64 (s1 : Int))) (by kernel_rfl) x1d (fun hHeld => ?_)
              refine wpAnyH_take (i := 0) (v := ?_) rfl (by kernel_rfl) (by kernel_rfl) (by kernel_rfl) (fun _ _ _ h => h) (Or.inl ⟨by rfl, ?_⟩) (by assumption) ?_
              rotate_left
              · intro wx hSw; clear hSw; go_simp <;> with_reducible rfl
              (try simp only [List.getElem_toArray]); (try simp only [List.getElem_cons_succ]); (try simp only [List.getElem_cons_zero]); (try simp only [Act.put]); (try simp only [List.setIfInBounds_toArray]); (repeat first | simp only [List.set_cons_succ] | simp only [List.set_cons_zero])
              refine wpAnyH_take (i := 2) (v := ?_) rfl (by kernel_rfl) (by kernel_rfl) (by kernel_rfl) (fun _ _ _ h => h) (Or.inl ⟨by rfl, ?_⟩) (by assumption) ?_
              rotate_left
              · intro wx hSw; clear hSw; go_simp <;> with_reducible rfl
              (try simp only [List.getElem_toArray]); (try simp only [List.getElem_cons_succ]); (try simp only [List.getElem_cons_zero]); (try simp only [Act.put]); (try simp only [List.setIfInBounds_toArray]); (repeat first | simp only [List.set_cons_succ] | simp only [List.set_cons_zero])
              refine wpAnyH_take (i := 3) (v := ?_) rfl (by kernel_rfl) (by kernel_rfl) (by kernel_rfl) (fun _ _ _ h => h) (Or.inl ⟨by rfl, ?_⟩) (by assumption) ?_
              rotate_left
              · intro wx hSw; clear hSw; go_simp <;> with_reducible rfl
              (try simp only [List.getElem_toArray]); (try simp only [List.getElem_cons_succ]); (try simp only [List.getElem_cons_zero]); (try simp only [Act.put]); (try simp only [List.setIfInBounds_toArray]); (repeat first | simp only [List.set_cons_succ] | simp only [List.set_cons_zero])
              refine wpAnyH_take (i := 4) (v := ?_) rfl (by kernel_rfl) (by kernel_rfl) (by kernel_rfl) (fun _ _ _ h => h) (Or.inl ⟨by rfl, ?_⟩) (by assumption) ?_
              rotate_left
              · intro wx hSw; have q5 := hSw; clear hSw; go_simp <;> with_reducible rfl
              (try simp only [List.getElem_toArray]); (try simp only [List.getElem_cons_succ]); (try simp only [List.getElem_cons_zero]); (try simp only [Act.put]); (try simp only [List.setIfInBounds_toArray]); (repeat first | simp only [List.set_cons_succ] | simp only [List.set_cons_zero])
              refine wpAnyH_take (i := 5) (v := ?_) rfl (by kernel_rfl) (by kernel_rfl) (by kernel_rfl) (fun _ _ _ h => h) (Or.inl ⟨by rfl, ?_⟩) (by assumption) ?_
              rotate_left
              · intro wx hSw; clear hSw; have hw2 := hw; go_simp; (try rw [hw]); (try with_reducible rfl)
              (try simp only [List.getElem_toArray]); (try simp only [List.getElem_cons_succ]); (try simp only [List.getElem_cons_zero]); (try simp only [Act.put]); (try simp only [List.setIfInBounds_toArray]); (repeat first | simp only [List.set_cons_succ] | simp only [List.set_cons_zero])
              refine wpAnyH_two' 1 6 (by kernel_rfl) rfl rfl (by kernel_rfl) (by kernel_rfl) ?_ ?_
              · refine wp_loadK 35 _ rfl ⟨w1.heap.size, 0, none⟩ rfl _ (run_ex L4.b) ?_
                refine ⟨hHeld, fun _ => ?_⟩
                (try simp only [List.getElem_toArray]); (try simp only [List.getElem_cons_succ]); (try simp only [List.getElem_cons_zero]); (try simp only [Act.put]); (try simp only [List.setIfInBounds_toArray]); (repeat first | simp only [List.set_cons_succ] | simp only [List.set_cons_zero])
                refine wpAnyH_one 6 (by kernel_rfl) rfl rfl ?_
                refine wp_call2P 48 _ _ rfl _ _ rfl rfl (fun _ _ => rfl) (hXd.mono ?_)
                rintro e w8 ⟨rfl, k8⟩
                have fin : RetE RES w r T (panT T E) w8 := by rw [HR.out]; exact ⟨rfl, L4.kk.trans k8⟩
                exact ⟨_, rfl, rfl, fin⟩
              · refine wp_call2P 48 _ _ rfl _ _ rfl rfl (fun _ _ => rfl) (hXd.mono ?_)
                rintro e w8 ⟨rfl, k8⟩
                have fin : RetE RES w r T (panT T E) w8 := by rw [HR.out]; exact ⟨rfl, L4.kk.trans k8⟩
                exact ⟨_, rfl, rfl, fin⟩
            | ok z2 =>
              obtain ⟨t2, R3⟩ := z2
              rw [hx] at hX
              have hl3 := (rd_lt dd).1 _ _ _ _ (by omega) hx
              have HR : Hid (RES = lp dd (.mk 7 0 (tok Rc) [tt, t2]) s1 least R3) := by show _ = _; rw [hRE]; dsimp only [thr, thn]; rw [hx]
              clear hRE hx
              go_wp2_with (first | (go_at_call 71; refine (hB _ hL.h.g).mono ?_; rintro e wa ⟨sb, rfl, ka⟩) | (refine wpList_store_cl rfl 110 _ _ rfl wa.heap.size 0 3 _ rfl rfl rfl (CL.made wa zB 110) (by show 3 ≤ 3; decide) iBd one3 ?_; intro wb cb kb zb; clear zb; have zab := ka.size; have kab : Keeps (fun _ => False) wr wb := (ka.alloc _).trans' kb (fun _ _ e => e) (fun i hi e => (by omega)); have L2 := hL.keep kab; have cb : CL wb wa.heap.size [.string sb, .int .i64 (s1 : Int), .int .i64 (s2 : Int)] := cb; have x1 := cb.c 1 _ rfl; have x2 := cb.c 2 _ rfl) | (go_at_call 72; refine (hTk _ L2.h).mono ?_; rintro e wc ⟨rfl, hc, kc⟩; have L3 := L2.go kc hc hr; have zc := kc.size; have zb2 := kab.size; have x1c := (cb.keep (by show 0 < 3; decide) kc (fun e => (by have := hL.kk.size; omega))).c 1 _ rfl; clear x1 x2))
              have kd : Keeps (fun _ => False) wc wc.drew := (Keeps.refl _ wc).drew
              have L4 := L3.keep kd
              have x1d := kd.cell x1c (fun e => e)
              have hXd := hX wc.drew L4.h
              refine wp_region_held_drew (S := fun W => W.cell? ⟨wa.heap.size, 1, none⟩ = some (.int .i64 (s1 : Int))) (by kernel_rfl) x1d (fun hHeld => ?_)
              refine wpAnyH_take (i := 0) (v := ?_) rfl (by kernel_rfl) (by kernel_rfl) (by kernel_rfl) (fun _ _ _ h => h) (Or.inl ⟨by rfl, ?_⟩) (by assumption) ?_
              rotate_left
              · intro wx hSw; clear hSw; go_simp <;> with_reducible rfl
              (try simp only [List.getElem_toArray]); (try simp only [List.getElem_cons_succ]); (try simp only [List.getElem_cons_zero]); (try simp only [Act.put]); (try simp only [List.setIfInBounds_toArray]); (repeat first | simp only [List.set_cons_succ] | simp only [List.set_cons_zero])
              refine wpAnyH_take (i := 2) (v := ?_) rfl (by kernel_rfl) (by kernel_rfl) (by kernel_rfl) (fun _ _ _ h => h) (Or.inl ⟨by rfl, ?_⟩) (by assumption) ?_
              rotate_left
              · intro wx hSw; clear hSw; go_simp <;> with_reducible rfl
              (try simp only [List.getElem_toArray]); (try simp only [List.getElem_cons_succ]); (try simp only [List.getElem_cons_zero]); (try simp only [Act.put]); (try simp only [List.setIfInBounds_toArray]); (repeat first | simp only [List.set_cons_succ] | simp only [List.set_cons_zero])
              refine wpAnyH_take (i := 3) (v := ?_) rfl (by kernel_rfl) (by kernel_rfl) (by kernel_rfl) (fun _ _ _ h => h) (Or.inl ⟨by rfl, ?_⟩) (by assumption) ?_
              rotate_left
              · intro wx hSw; clear hSw; go_simp <;> with_reducible rfl
              (try simp only [List.getElem_toArray]); (try simp only [List.getElem_cons_succ]); (try simp only [List.getElem_cons_zero]); (try simp only [Act.put]); (try simp only [List.setIfInBounds_toArray]); (repeat first | simp only [List.set_cons_succ] | simp only [List.set_cons_zero])
              refine wpAnyH_take (i := 4) (v := ?_) rfl (by kernel_rfl) (by kernel_rfl) (by kernel_rfl) (fun _ _ _ h => h) (Or.inl ⟨by rfl, ?_⟩) (by assumption) ?_
              rotate_left
              · intro wx hSw; have q5 := hSw; clear hSw; go_simp <;> with_reducible rfl
              (try simp only [List.getElem_toArray]); (try simp only [List.getElem_cons_succ]); (try simp only [List.getElem_cons_zero]); (try simp only [Act.put]); (try simp only [List.setIfInBounds_toArray]); (repeat first | simp only [List.set_cons_succ] | simp only [List.set_cons_zero])
              refine wpAnyH_take (i := 5) (v := ?_) rfl (by kernel_rfl) (by kernel_rfl) (by kernel_rfl) (fun _ _ _ h => h) (Or.inl ⟨by rfl, ?_⟩) (by assumption) ?_
              rotate_left
              · intro wx hSw; clear hSw; have hw2 := hw; go_simp; (try rw [hw]); (try with_reducible rfl)
              (try simp only [List.getElem_toArray]); (try simp only [List.getElem_cons_succ]); (try simp only [List.getElem_cons_zero]); (try simp only [Act.put]); (try simp only [List.setIfInBounds_toArray]); (repeat first | simp only [List.set_cons_succ] | simp only [List.set_cons_zero])
              refine wpAnyH_two' 1 6 (by kernel_rfl) rfl rfl (by kernel_rfl) (by kernel_rfl) ?_ ?_
              · refine wp_loadK 35 _ rfl ⟨w1.heap.size, 0, none⟩ rfl _ (run_ex L4.b) ?_
                refine ⟨hHeld, fun _ => ?_⟩
                (try simp only [List.getElem_toArray]); (try simp only [List.getElem_cons_succ]); (try simp only [List.getElem_cons_zero]); (try simp only [Act.put]); (try simp only [List.setIfInBounds_toArray]); (repeat first | simp only [List.set_cons_succ] | simp only [List.set_cons_zero])
                refine wpAnyH_one 6 (by kernel_rfl) rfl rfl ?_
                refine wp_call2 48 _ _ rfl _ _ rfl rfl (fun _ _ => rfl) (hXd.mono ?_)
                rintro e w8 ⟨k2, n2, q2, p2, m2, c2, rfl, u2, h8, k8⟩
                have L5 := L4.go k8 h8 hr
                have zd := kd.size
                have z8 := k8.size
                have x18 := k8.cell x1d (fun e => (by have e : wa.heap.size = r := e; have := L2.kk.size; have := hL.kk.size; omega))
                refine ⟨_, rfl, x18, fun _ => ?_⟩
                (try simp only [List.getElem_toArray]); (try simp only [List.getElem_cons_succ]); (try simp only [List.getElem_cons_zero]); (try simp only [Act.put]); (try simp only [List.setIfInBounds_toArray]); (repeat first | simp only [List.set_cons_succ] | simp only [List.set_cons_zero])
                have HT2 : Hid (TC w8 (fun g => wc.drew.heap.size ≤ g) 35 t2 [.int .i64 k2, .int .i64 n2, .string q2, .slice p2 m2 c2]) := u2
                clear u2
                refine wpAnyH_one 7 (by kernel_rfl) rfl rfl ?_
                refine wp_build2K uEx inEx (by decide) (by decide) _ _ rfl [_, _, _, _] [_, _, _, _] rfl rfl rfl rfl ?_
                have ka8 := fun o => (Keeps.refl (fun _ => False) w8).alloc o
                refine ⟨(ka8 _).cell x18 (fun e => e), fun _ => ?_⟩
                (try simp only [List.getElem_toArray]); (try simp only [List.getElem_cons_succ]); (try simp only [List.getElem_cons_zero]); (try simp only [Act.put]); (try simp only [List.setIfInBounds_toArray]); (repeat first | simp only [List.set_cons_succ] | simp only [List.set_cons_zero])
                refine wpAnyH_take (i := 8) (v := ?_) rfl (by kernel_rfl) (by kernel_rfl) (by kernel_rfl) (fun _ _ _ h => h) (Or.inl ⟨by rfl, ?_⟩) (by assumption) ?_
                rotate_left
                · intro wx hSw; clear hSw; go_simp <;> with_reducible rfl
                (try simp only [List.getElem_toArray]); (try simp only [List.getElem_cons_succ]); (try simp only [List.getElem_cons_zero]); (try simp only [Act.put]); (try simp only [List.setIfInBounds_toArray]); (repeat first | simp only [List.set_cons_succ] | simp only [List.set_cons_zero])
                have B8 := L5.b.alloc (by show 0 < 4; decide) (.cells ([.int .i64 k, .int .i64 n, .string s, .slice p m c] ++ [.int .i64 k2, .int .i64 n2, .string q2, .slice p2 m2 c2] : List Value).toArray 35)
                obtain ⟨X, hX9⟩ : ∃ X, X = (w8.alloc (.cells ([.int .i64 k, .int .i64 n, .string s, .slice p m c] ++ [.int .i64 k2, .int .i64 n2, .string q2, .slice p2 m2 c2] : List Value).toArray 35)).setCells w1.heap.size 0 [.int .i64 7, .int .i64 0, .string (bs (tok Rc)), .slice (some ⟨w8.heap.size, 0, none⟩) 2 2] := ⟨_, rfl⟩
                have kX : Keeps (fun i => i = w1.heap.size) (w8.alloc (.cells ([.int .i64 k, .int .i64 n, .string s, .slice p m c] ++ [.int .i64 k2, .int .i64 n2, .string q2, .slice p2 m2 c2] : List Value).toArray 35)) X := by rw [hX9]; exact (Keeps.refl (fun i => i = w1.heap.size) _).setsA _ _
                have cX : CL X w1.heap.size [.int .i64 7, .int .i64 0, .string (bs (tok Rc)), .slice (some ⟨w8.heap.size, 0, none⟩) 2 2] := by rw [hX9]; exact B8.sets (o := 0) (by show 0 + 4 ≤ 4; decide)
                have xX := kX.cell ((ka8 (.cells ([.int .i64 k, .int .i64 n, .string s, .slice p m c] ++ [.int .i64 k2, .int .i64 n2, .string q2, .slice p2 m2 c2] : List Value).toArray 35)).cell x18 (fun e => e)) (fun e => (by have e : wa.heap.size = w1.heap.size := e; omega))
                refine wpAnyH_store 9 (by kernel_rfl) rfl rfl 35 _ _ rfl w1.heap.size 0 4 #[.int .i64 7, .int .i64 0, .string (bs (tok Rc)), .slice (some ⟨w8.heap.size, 0, none⟩) 2 2] rfl rfl rfl (B8.there (by show 0 + 4 ≤ 4; decide)) iEx one4 (by have := xX; rw [hX9] at this; exact this) (fun _ => ?_)
                (try simp only [List.getElem_toArray]); (try simp only [List.getElem_cons_succ]); (try simp only [List.getElem_cons_zero]); (try simp only [Act.put]); (try simp only [List.setIfInBounds_toArray]); (repeat first | simp only [List.set_cons_succ] | simp only [List.set_cons_zero])
                refine wpAnyH_done (by kernel_rfl) ?_ _
                have hx10 : (w8.alloc (.cells ([.int .i64 k, .int .i64 n, .string s, .slice p m c] ++ [.int .i64 k2, .int .i64 n2, .string q2, .slice p2 m2 c2] : List Value).toArray 35)).setCells w1.heap.size 0 (#[.int .i64 7, .int .i64 0, .string (bs (tok Rc)), .slice (some ⟨w8.heap.size, 0, none⟩) 2 2] : Array Value).toList = X := hX9.symm
                have kk8 : Keeps (fun i => i = w1.heap.size) w8 X := ((Keeps.refl _ w8).alloc _).trans kX
                have LX : Hid (ExL w r T w1.heap.size X (.mk 7 0 (tok Rc) [tt, t2]) R3 7 0 (bs (tok Rc)) (some ⟨w8.heap.size, 0, none⟩) 2 2) := by
                  have t2' : TC w8 (fun g => w.heap.size < g ∧ g ≠ w1.heap.size) 35 t2 _ := HT2.out.mono (fun g hg => by have := L4.lo; omega)
                  exact ⟨cX, L5.t.node2 t2' (k := 7) (n := 0) (wd := tok Rc) kX (fun g hg => hg.2) ⟨by have := L5.kk.size; have := L5.m.lt (by show 0 < 4; decide); omega, fun e => by omega⟩ (by unfold I64; omega) (by unfold I64; omega) hTok, h8.keep kk8 (fun i hi e => by have := h8.low; omega) (fun e => by omega), L5.kk.trans' kk8 (fun _ _ e => e) (fun i hi e => by omega), L5.m.keep (by show 0 < 4; decide) kk8 (fun e => by have := L4.lo; omega), L5.lo⟩
                rw [hx10]
                clear hx10 hX9 cX kX kk8 B8 L5 L4 L3 L2 hXd hX
                go_wp2_with fail
                go_roundw
                case rel => exact ⟨dd, s1, _, _, _, _, _, _, _, _, by first | rfl | go_num, by omega, HR.out, by omega, by omega, LX.out⟩
                case measure =>
                  have e1 := mR_eq LX.out.h
                  have e2 := mR_eq hL.h
                  first | (show mR r X < mR r wr; omega) | (simp [e1, e2]; omega)
              · refine wp_call2 48 _ _ rfl _ _ rfl rfl (fun _ _ => rfl) (hXd.mono ?_)
                rintro e w8 ⟨k2, n2, q2, p2, m2, c2, rfl, u2, h8, k8⟩
                have L5 := L4.go k8 h8 hr
                have zd := kd.size
                have z8 := k8.size
                have x18 := k8.cell x1d (fun e => (by have e : wa.heap.size = r := e; have := L2.kk.size; have := hL.kk.size; omega))
                refine ⟨_, rfl, x18, fun _ => ?_⟩
                (try simp only [List.getElem_toArray]); (try simp only [List.getElem_cons_succ]); (try simp only [List.getElem_cons_zero]); (try simp only [Act.put]); (try simp only [List.setIfInBounds_toArray]); (repeat first | simp only [List.set_cons_succ] | simp only [List.set_cons_zero])
                refine wpAnyH_one 1 (by kernel_rfl) rfl rfl ?_
                refine wp_loadK 35 _ rfl ⟨w1.heap.size, 0, none⟩ rfl _ (run_ex L5.b) ?_
                refine ⟨x18, fun _ => ?_⟩
                (try simp only [List.getElem_toArray]); (try simp only [List.getElem_cons_succ]); (try simp only [List.getElem_cons_zero]); (try simp only [Act.put]); (try simp only [List.setIfInBounds_toArray]); (repeat first | simp only [List.set_cons_succ] | simp only [List.set_cons_zero])
                have HT2 : Hid (TC w8 (fun g => wc.drew.heap.size ≤ g) 35 t2 [.int .i64 k2, .int .i64 n2, .string q2, .slice p2 m2 c2]) := u2
                clear u2
                refine wpAnyH_one 7 (by kernel_rfl) rfl rfl ?_
                refine wp_build2K uEx inEx (by decide) (by decide) _ _ rfl [_, _, _, _] [_, _, _, _] rfl rfl rfl rfl ?_
                have ka8 := fun o => (Keeps.refl (fun _ => False) w8).alloc o
                refine ⟨(ka8 _).cell x18 (fun e => e), fun _ => ?_⟩
                (try simp only [List.getElem_toArray]); (try simp only [List.getElem_cons_succ]); (try simp only [List.getElem_cons_zero]); (try simp only [Act.put]); (try simp only [List.setIfInBounds_toArray]); (repeat first | simp only [List.set_cons_succ] | simp only [List.set_cons_zero])
                refine wpAnyH_take (i := 8) (v := ?_) rfl (by kernel_rfl) (by kernel_rfl) (by kernel_rfl) (fun _ _ _ h => h) (Or.inl ⟨by rfl, ?_⟩) (by assumption) ?_
                rotate_left
                · intro wx hSw; clear hSw; go_simp <;> with_reducible rfl
                (try simp only [List.getElem_toArray]); (try simp only [List.getElem_cons_succ]); (try simp only [List.getElem_cons_zero]); (try simp only [Act.put]); (try simp only [List.setIfInBounds_toArray]); (repeat first | simp only [List.set_cons_succ] | simp only [List.set_cons_zero])
                have B8 := L5.b.alloc (by show 0 < 4; decide) (.cells ([.int .i64 k, .int .i64 n, .string s, .slice p m c] ++ [.int .i64 k2, .int .i64 n2, .string q2, .slice p2 m2 c2] : List Value).toArray 35)
                obtain ⟨X, hX9⟩ : ∃ X, X = (w8.alloc (.cells ([.int .i64 k, .int .i64 n, .string s, .slice p m c] ++ [.int .i64 k2, .int .i64 n2, .string q2, .slice p2 m2 c2] : List Value).toArray 35)).setCells w1.heap.size 0 [.int .i64 7, .int .i64 0, .string (bs (tok Rc)), .slice (some ⟨w8.heap.size, 0, none⟩) 2 2] := ⟨_, rfl⟩
                have kX : Keeps (fun i => i = w1.heap.size) (w8.alloc (.cells ([.int .i64 k, .int .i64 n, .string s, .slice p m c] ++ [.int .i64 k2, .int .i64 n2, .string q2, .slice p2 m2 c2] : List Value).toArray 35)) X := by rw [hX9]; exact (Keeps.refl (fun i => i = w1.heap.size) _).setsA _ _
                have cX : CL X w1.heap.size [.int .i64 7, .int .i64 0, .string (bs (tok Rc)), .slice (some ⟨w8.heap.size, 0, none⟩) 2 2] := by rw [hX9]; exact B8.sets (o := 0) (by show 0 + 4 ≤ 4; decide)
                have xX := kX.cell ((ka8 (.cells ([.int .i64 k, .int .i64 n, .string s, .slice p m c] ++ [.int .i64 k2, .int .i64 n2, .string q2, .slice p2 m2 c2] : List Value).toArray 35)).cell x18 (fun e => e)) (fun e => (by have e : wa.heap.size = w1.heap.size := e; omega))
                refine wpAnyH_store 9 (by kernel_rfl) rfl rfl 35 _ _ rfl w1.heap.size 0 4 #[.int .i64 7, .int .i64 0, .string (bs (tok Rc)), .slice (some ⟨w8.heap.size, 0, none⟩) 2 2] rfl rfl rfl (B8.there (by show 0 + 4 ≤ 4; decide)) iEx one4 (by have := xX; rw [hX9] at this; exact this) (fun _ => ?_)
                (try simp only [List.getElem_toArray]); (try simp only [List.getElem_cons_succ]); (try simp only [List.getElem_cons_zero]); (try simp only [Act.put]); (try simp only [List.setIfInBounds_toArray]); (repeat first | simp only [List.set_cons_succ] | simp only [List.set_cons_zero])
                refine wpAnyH_done (by kernel_rfl) ?_ _
                have hx10 : (w8.alloc (.cells ([.int .i64 k, .int .i64 n, .string s, .slice p m c] ++ [.int .i64 k2, .int .i64 n2, .string q2, .slice p2 m2 c2] : List Value).toArray 35)).setCells w1.heap.size 0 (#[.int .i64 7, .int .i64 0, .string (bs (tok Rc)), .slice (some ⟨w8.heap.size, 0, none⟩) 2 2] : Array Value).toList = X := hX9.symm
                have kk8 : Keeps (fun i => i = w1.heap.size) w8 X := ((Keeps.refl _ w8).alloc _).trans kX
                have LX : Hid (ExL w r T w1.heap.size X (.mk 7 0 (tok Rc) [tt, t2]) R3 7 0 (bs (tok Rc)) (some ⟨w8.heap.size, 0, none⟩) 2 2) := by
                  have t2' : TC w8 (fun g => w.heap.size < g ∧ g ≠ w1.heap.size) 35 t2 _ := HT2.out.mono (fun g hg => by have := L4.lo; omega)
                  exact ⟨cX, L5.t.node2 t2' (k := 7) (n := 0) (wd := tok Rc) kX (fun g hg => hg.2) ⟨by have := L5.kk.size; have := L5.m.lt (by show 0 < 4; decide); omega, fun e => by omega⟩ (by unfold I64; omega) (by unfold I64; omega) hTok, h8.keep kk8 (fun i hi e => by have := h8.low; omega) (fun e => by omega), L5.kk.trans' kk8 (fun _ _ e => e) (fun i hi e => by omega), L5.m.keep (by show 0 < 4; decide) kk8 (fun e => by have := L4.lo; omega), L5.lo⟩
                rw [hx10]
                clear hx10 hX9 cX kX kk8 B8 L5 L4 L3 L2 hXd hX
                go_wp2_with fail
                go_roundw
                case rel => exact ⟨dd, s1, _, _, _, _, _, _, _, _, by first | rfl | go_num, by omega, HR.out, by omega, by omega, LX.out⟩
                case measure =>
                  have e1 := mR_eq LX.out.h
                  have e2 := mR_eq hL.h
                  first | (show mR r X < mR r wr; omega) | (simp [e1, e2]; omega)
theorem opd_w {d : Nat} (IH : CE d) {w : World} {r : Nat} {T R : Bs} (h : RdM w r T R) (hd : 10 * R.length + 4 ≤ d + 1) : Calls Tryz.prog 70 #[pR r] w (RetE (opd (d + 1) R) w r T) := by
  by_cases g1 : tok R = [45]
  · exact opd_5 IH h hd g1
  by_cases g2 : tok R = [33]
  · exact opd_6 IH h hd g2
  exact opd_l IH h hd g1 g2
theorem lst_w {d : Nat} (IH : CE d) {w : World} {r : Nat} {T R : Bs} (h : RdM w r T R) (hd : 10 * R.length + 3 ≤ d + 1) : Calls Tryz.prog 90 #[pR r] w (RetE (lst (d + 1) R) w r T) := by
  by_cases g1 : tok R = [91]
  · exact lst_3 IH h hd g1
  by_cases g2 : tok R = kTake
  · exact lst_4 IH h hd g2
  by_cases g3 : tok R = kMin
  · exact lst_mi IH h hd g3
  by_cases g4 : tok R = kMax
  · exact lst_ma IH h hd g4
  by_cases g5 : tok R = [40]
  · exact lst_p IH h hd g5
  cases hn : isNm (tok R)
  · exact lst_1 h g1 g2 g3 g4 g5 hn
  · exact lst_2 h g1 g2 g3 g4 g5 hn
theorem ce_all (d : Nat) : CE d := by
  induction d using Nat.strongRecOn with
  | ind d ih =>
    cases d with
    | zero => exact ⟨fun _ _ _ _ _ _ h => absurd h (by omega), fun _ _ _ _ _ h => absurd h (by omega), fun _ _ _ _ _ h => absurd h (by omega), fun _ _ _ _ _ h => absurd h (by omega), fun _ _ _ _ _ _ h => absurd h (by omega)⟩
    | succ d =>
      have I := ih d (Nat.lt_succ_self d)
      exact ⟨fun w r T R least h hd h1 h2 => ex_w (fun d' hd' => ih d' (by omega)) h hd h1 h2, fun w r T R h hd => opd_w I h hd, fun w r T R h hd => lst_w I h hd, fun w r T R h hd => obj_w I h hd, fun w r T R h hm hd => pr_w I h hm hd⟩
end Go.Proofs.YtehblpbefkopbaaGreatDoor
