import Derived.Test.YtehblpbefkopbaaGreatDoorXaO
namespace Go.Proofs.YtehblpbefkopbaaGreatDoor
open Go.RowKit Go.ChangeShapes Go.WideShapes Go.ChangeAt Go.Deep
attribute [local go_sem] Oper.semAt_some run_store_nf run_store_f
theorem run_store_slS {w : World} {b o : Nat} (hc : (w.cell? ⟨b, o, none⟩).isSome = true) (hz : w.frozen? ⟨b, o, none⟩ = false) (p : Option Addr) (m c : Nat) : (storeVar 25 ⟨b, o, none⟩ (.slice p m c)).run Tryz.prog w = .ok () (w.setCell ⟨b, o, none⟩ (.slice p m c)) := by
  obtain ⟨u, hu⟩ := Option.isSome_iff_exists.1 hc
  go_simp
theorem wpList_store_slS {w : World} {ops : Array Oper} {rest : List Oper} {o : Oper} {a : Act} {Q : Exit → Act → World → Prop} (hgd : o.guard = none) (hd : o.dst = none) (x y : Operand) (ho : o.op = .store 25 x y) (b off : Nat) (hx : a.eval x = .pointer (some ⟨b, off, none⟩)) (p : Option Addr) (m c : Nat) (hy : a.eval y = .slice p m c)
    {l : List Value} (hB : CL w b l) (hl : off < l.length) (h : ∀ w1, CL w1 b (l.set off (.slice p m c)) → Keeps (fun k => k = b) w w1 → w1.heap.size = w.heap.size → wpList Tryz.prog ops Q rest a w1) : wpList Tryz.prog ops Q (o :: rest) a w :=
  wpList_plain hgd fun _ hK => by
    unfold Oper.wp execOp
    simp only [ho, hx, hy, Instr.storeAt, Instr.sureAddr, Sem.run_bind, Sem.run_pure, Result.andThen_ok, run_store_slS (by rw [hB.c off _ (List.getElem?_eq_getElem hl)]; rfl) (hB.z off hl) p m c]
    refine hK _ _ ?_
    have e : a.put o.dst undef = a := by rw [hd]; rfl
    rw [e]
    exact h _ (hB.set hl _) ((Keeps.refl (fun k => k = b) w).setCell (p := ⟨b, off, none⟩) (fun _ => rfl) _) (by simp)
/-- A statement more at the end of a list of the call's own. -/
theorem app_st {W : World} {P : Nat → Prop} {v : Value} {n : Nat} {xs L : List Value} (hown : OwnP W P 37 12 v n xs) (hn : n ≤ 40000) (hL : L.length = 12) (hO : One L) :
    ∃ p c w', (Builtin.append_ #[25, 25] 25 #[v, .slice (some ⟨W.heap.size, 0, none⟩) 1 1]).run Tryz.prog (W.alloc (.cells L.toArray 37)) = .ok (.slice p (n + 1) c) w' ∧ w'.ownsRow 0 37 12 (.slice p (n + 1) c) (n + 1) (xs ++ L) ∧ Keeps (fun i => v.ownBlock = some i) W w' ∧ ((Value.slice p (n + 1) c).ownBlock = v.ownBlock ∨ (Value.slice p (n + 1) c).ownBlock = some (W.heap.size + 1)) := by
  have h1 : ∀ u ∈ L, u.oneCell' = true := by
    have hO : L.toArray.all (·.oneCell') = true := hO
    rw [List.all_toArray, List.all_eq_true] at hO
    exact hO
  obtain ⟨v', w', hr, ho, kk, hb⟩ := append_sz uSt inSt rfl (by decide) hown.1 (Nat.zero_le _) (by decide) (by omega) L hL h1
  obtain ⟨p, c, rfl, -⟩ := own_slice ho
  exact ⟨p, c, w', hr, ho, kk, hb⟩
/-- Statements on their way. -/
structure StL (w : World) (r : Nat) (T : Bs) (Wr : World) (acc : List St) (p : Option Addr) (c : Nat) (xs : List Value) (Rc : Bs) : Prop where
  o : OwnP Wr (fun g => w.heap.size ≤ g) 37 12 (.slice p acc.length c) acc.length xs
  x : SL Wr (fun g => w.heap.size ≤ g ∧ ∀ b, (Value.slice p acc.length c).ownBlock = some b → g ≠ b) 35 37 acc xs
  h : RdM Wr r T Rc
  kk : Keeps (fun k => k = r) w Wr
theorem StL.add {w : World} {r : Nat} {T : Bs} {Wr W1 : World} {acc : List St} {p : Option Addr} {c : Nat} {xs L : List Value} {Rc R1 : Bs} {s : St} (e : StL w r T Wr acc p c xs Rc) (hr : r < w.heap.size) (h1 : RdM W1 r T R1) (k1 : Keeps (fun k => k = r) Wr W1) (V : SC W1 (fun g => Wr.heap.size ≤ g) 35 37 s L) (hL : L.length = 12) (hO : One L) (hn : acc.length ≤ 40000) :
    ∃ p' c' w', (Builtin.append_ #[25, 25] 25 #[.slice p acc.length c, .slice (some ⟨W1.heap.size, 0, none⟩) 1 1]).run Tryz.prog (W1.alloc (.cells L.toArray 37)) = .ok (.slice p' (acc ++ [s]).length c') w' ∧ StL w r T w' (acc ++ [s]) p' c' (xs ++ L) R1 := by
  have z1 := e.kk.size
  have z2 := k1.size
  have o1 := e.o.stay (k1.stay (fun i hi _ q => by omega))
  have x1 := e.x.stay (k1.stay (fun i hi _ q => by have := hi.1; omega))
  obtain ⟨p', c', w', hr1, ho, kq, hb⟩ := app_st o1 hn hL hO
  have elen : (acc ++ [s]).length = acc.length + 1 := by simp
  have z3 := kq.size
  have hlo : ∀ b, (Value.slice p acc.length c).ownBlock = some b → b < Wr.heap.size := fun b hb => owns_lt' e.o.1 b hb
  have hge : ∀ b, (Value.slice p acc.length c).ownBlock = some b → w.heap.size ≤ b := fun b hb => e.o.2 b hb
  refine ⟨p', c', w', by rw [elen]; exact hr1, ?_⟩
  have x2 := x1.lt.stay (kq.stay (fun i hi _ q => hi.1.2 i q rfl))
  have v2 := V.lt.stay (kq.stay (fun i hi _ q => by have := hlo i q; have := hi.1; omega))
  have o2 : OwnP w' (fun g => w.heap.size ≤ g) 37 12 (.slice p' (acc.length + 1) c') (acc.length + 1) (xs ++ L) := ⟨ho, fun g hg => by
    rcases hb with hb | hb
    · rw [hb] at hg; exact hge g hg
    · rw [hb] at hg; cases hg; show w.heap.size ≤ W1.heap.size + 1; omega⟩
  have x3 : SL w' (fun g => w.heap.size ≤ g ∧ ∀ b, (Value.slice p' (acc.length + 1) c').ownBlock = some b → g ≠ b) 35 37 (acc ++ [s]) (xs ++ L) := by
    refine SL.snoc (v2.mono (fun g hg => ⟨by have := hg.1; omega, fun b hb' => ?_⟩)) (x2.mono (fun g hg => ⟨hg.1.1, fun b hb' => ?_⟩))
    · rcases hb with hb | hb
      · rw [hb] at hb'; have := hlo b hb'; have := hg.1; omega
      · rw [hb] at hb'; cases hb'; have := hg.2; omega
    · rcases hb with hb | hb
      · rw [hb] at hb'; exact hg.1.2 b hb'
      · rw [hb] at hb'; cases hb'; have := hg.2; omega
  refine ⟨by rw [elen]; exact o2, by rw [elen]; exact x3, h1.keep kq (fun i hi q => ?_) (fun q => ?_), (e.kk.trans k1).trans' kq (fun _ _ q => q) (fun i hi q => ?_)⟩
  · have q : (Value.slice p acc.length c).ownBlock = some i := q
    have := hge i q; have := h1.low; omega
  · have q : (Value.slice p acc.length c).ownBlock = some r := q
    have := hge r q; omega
  · have q : (Value.slice p acc.length c).ownBlock = some i := q
    have := hge i q; omega
/-- The contracts of the functions that read statements. -/
structure CS (d : Nat) : Prop where
  sts : ∀ w r T R en, RdM w r T R → 10 * R.length + 5 ≤ d → Calls Tryz.prog 23 #[pR r, .string (bs en)] w (RetL (sts d en R) w r T)
  stm : ∀ w r T R, RdM w r T R → 10 * R.length + 4 ≤ d → Calls Tryz.prog 33 #[pR r] w (RetS (stm d R) w r T)
  brn : ∀ w r T R, RdM w r T R → 10 * R.length + 3 ≤ d → Calls Tryz.prog 47 #[pR r] w (RetS (brn d R) w r T)
  oth : ∀ w r T R, RdM w r T R → 10 * R.length + 4 ≤ d → Calls Tryz.prog 69 #[pR r] w (RetL (oth d R) w r T)
  blk : ∀ w r T R, RdM w r T R → 10 * R.length + 3 ≤ d → Calls Tryz.prog 49 #[pR r] w (RetL (blk d R) w r T)
set_option maxHeartbeats 1000000 in
set_option maxRecDepth 100000 in
theorem blk_w {d : Nat} (IH : CS d) {w : World} {r : Nat} {T R : Bs} (h : RdM w r T R) (hd : 10 * R.length + 3 ≤ d + 1) : Calls Tryz.prog 49 #[pR r] w (RetL (blk (d + 1) R) w r T) := by
  have hr := h.lt
  have y2 := h.c.c 2 _ rfl
  rw [blk]
  cases hn0 : need [123] R with
  | error E =>
    have hS0 := fun W (h : RdM W r T R) => need_noC h hn0
    show Calls _ _ _ _ (fun e w' => e = panT T E ∧ Keeps (fun k => k = r) w w')
    go_enter Tryz.func49, Tryz.ntmps49
    go_wp2_with (go_at_call 51; refine (hS0 _ h).mono ?_; rintro e w1 ⟨rfl, k1⟩; have K1 : Keeps (fun k => k = r) w w1 := (Keeps.refl _ w).trans k1)
    exact ⟨rfl, rfl, K1⟩
  | ok R1 =>
    have hS0 := fun W (h : RdM W r T R) => need_okC h hn0
    have hl0 : R1.length < R.length := need_lt hn0 (by decide)
    (try dsimp only [thr, thn])
    have hS1 := fun W (h : RdM W r T R1) => IH.sts W r T R1 [125] h (by omega)
    cases hn1 : sts d [125] R1 with
    | error E =>
      rw [hn1] at hS1
      show Calls _ _ _ _ (fun e w' => e = panT T E ∧ Keeps (fun k => k = r) w w')
      go_enter Tryz.func49, Tryz.ntmps49
      go_wp2_with (first | (go_at_call 51; refine (hS0 _ h).mono ?_; rintro e w1 ⟨rfl, h1, k1⟩; have Z1 := k1.size; have K1 : Keeps (fun k => k = r) w w1 := (Keeps.refl _ w).trans k1; clear hS0) | (go_at_call 23; refine (hS1 _ h1).mono ?_; rintro e w2 ⟨rfl, k2⟩; have K2 : Keeps (fun k => k = r) w w2 := K1.trans k2))
      exact ⟨rfl, rfl, K2⟩
    | ok z1 =>
      obtain ⟨t1, R2⟩ := z1
      rw [hn1] at hS1
      have hl1 : R2.length ≤ R1.length := (rs_lt d).1 _ _ _ _ hn1
      (try dsimp only [thr, thn])
      cases hn2 : need [125] R2 with
      | error E =>
        have hS2 := fun W (h : RdM W r T R2) => need_noC h hn2
        show Calls _ _ _ _ (fun e w' => e = panT T E ∧ Keeps (fun k => k = r) w w')
        go_enter Tryz.func49, Tryz.ntmps49
        go_wp2_with (first | (go_at_call 51; refine (hS0 _ h).mono ?_; rintro e w1 ⟨rfl, h1, k1⟩; have Z1 := k1.size; have K1 : Keeps (fun k => k = r) w w1 := (Keeps.refl _ w).trans k1; clear hS0) | (go_at_call 23; refine (hS1 _ h1).mono ?_; rintro e w2 ⟨p101, m101, c101, xs101, rfl, ou1, u1, h2, kk2⟩; have k2 := kk2; have Z2 := k2.size; have K2 : Keeps (fun k => k = r) w w2 := K1.trans k2; have O101 : OwnP w2 (fun g => w.heap.size ≤ g) 37 12 (.slice p101 m101 c101) t1.length xs101 := ou1.mono (fun g hg => (by omega)); have X101 : SL w2 (fun g => w.heap.size ≤ g) 35 37 t1 xs101 := u1.mono (fun g hg => (by omega)); clear hS1) | (go_at_call 51; refine (hS2 _ h2).mono ?_; rintro e w3 ⟨rfl, k3⟩; have K3 : Keeps (fun k => k = r) w w3 := K2.trans k3))
        exact ⟨rfl, rfl, K3⟩
      | ok R3 =>
        have hS2 := fun W (h : RdM W r T R2) => need_okC h hn2
        have hl2 : R3.length < R2.length := need_lt hn2 (by decide)
        (try dsimp only [thr, thn])
        show Calls _ _ _ _ (fun e w' => ∃ (p : Option Addr) (m c : Nat) (xs : List Value), e = .returned (.slice p m c) ∧ OwnP w' (fun g => w.heap.size ≤ g) 37 12 (.slice p m c) (t1).length xs ∧ SL w' (fun g => w.heap.size ≤ g) 35 37 (t1) xs ∧ RdM w' r T R3 ∧ Keeps (fun k => k = r) w w')
        go_enter Tryz.func49, Tryz.ntmps49
        go_wp2_with (first | (go_at_call 51; refine (hS0 _ h).mono ?_; rintro e w1 ⟨rfl, h1, k1⟩; have Z1 := k1.size; have K1 : Keeps (fun k => k = r) w w1 := (Keeps.refl _ w).trans k1; clear hS0) | (go_at_call 23; refine (hS1 _ h1).mono ?_; rintro e w2 ⟨p101, m101, c101, xs101, rfl, ou1, u1, h2, kk2⟩; have k2 := kk2; have Z2 := k2.size; have K2 : Keeps (fun k => k = r) w w2 := K1.trans k2; have O101 : OwnP w2 (fun g => w.heap.size ≤ g) 37 12 (.slice p101 m101 c101) t1.length xs101 := ou1.mono (fun g hg => (by omega)); have X101 : SL w2 (fun g => w.heap.size ≤ g) 35 37 t1 xs101 := u1.mono (fun g hg => (by omega)); clear hS1) | (go_at_call 51; refine (hS2 _ h2).mono ?_; rintro e w3 ⟨rfl, h3, k3⟩; have Z3 := k3.size; have K3 : Keeps (fun k => k = r) w w3 := K2.trans k3; have O101 := O101.stay (k3.stay (fun i hi _ e => (by omega))); have X101 := X101.stay (k3.stay (fun i hi _ e => (by omega))); clear hS2))
        go_ret
        exact ⟨_, _, _, _, rfl, O101, X101, h3, K3⟩
set_option maxHeartbeats 1000000 in
set_option maxRecDepth 100000 in
theorem oth_i {d : Nat} (IH : CS d) {w : World} {r : Nat} {T R : Bs} (h : RdM w r T R) (hd : 10 * R.length + 4 ≤ d + 1) (ht : tok R = kIf) : Calls Tryz.prog 69 #[pR r] w (RetL (oth (d + 1) R) w r T) := by
  have hr := h.lt
  have y2 := h.c.c 2 _ rfl
  rw [oth, if_pos ht]
  have e1 : ((bs (tok R)).toList == [105, 102]) = true := by rw [bs_toList, ht]; rfl
  clear ht
  generalize bs (tok R) = K at *
  have hS0 := fun W (h : RdM W r T R) => IH.brn W r T R h (by omega)
  cases hn0 : brn d R with
  | error E =>
    rw [hn0] at hS0
    show Calls _ _ _ _ (fun e w' => e = panT T E ∧ Keeps (fun k => k = r) w w')
    go_enter Tryz.func69, Tryz.ntmps69
    go_wp2_with (go_at_call 47; refine (hS0 _ h).mono ?_; rintro e w1 ⟨rfl, k1⟩; have K1 : Keeps (fun k => k = r) w w1 := (Keeps.refl _ w).trans k1)
    exact ⟨rfl, rfl, K1⟩
  | ok z0 =>
    obtain ⟨t0, R1⟩ := z0
    rw [hn0] at hS0
    have hl0 : R1.length < R.length := (rs_lt d).2.2.1 _ _ _ hn0
    (try dsimp only [thr, thn])
    show Calls _ _ _ _ (fun e w' => ∃ (p : Option Addr) (m c : Nat) (xs : List Value), e = .returned (.slice p m c) ∧ OwnP w' (fun g => w.heap.size ≤ g) 37 12 (.slice p m c) ([t0]).length xs ∧ SL w' (fun g => w.heap.size ≤ g) 35 37 ([t0]) xs ∧ RdM w' r T R1 ∧ Keeps (fun k => k = r) w w')
    go_enter Tryz.func69, Tryz.ntmps69
    go_wp2_with (first | (go_at_call 47; refine (hS0 _ h).mono ?_; rintro e w1 ⟨L100, hLo100, hLn100, rfl, u0, h1, kk1⟩; have k1 := kk1; have Z1 := k1.size; have K1 : Keeps (fun k => k = r) w w1 := (Keeps.refl _ w).trans k1; have V100 : SC w1 (fun g => w.heap.size ≤ g) 35 37 t0 L100 := u0.mono (fun g hg => (by omega)); clear hS0) | (refine wpList_build1L uSt inSt (by decide) (by decide) rfl _ rfl L100 hLn100 rfl ?_; (try simp only [Act.put, List.setIfInBounds_toArray, List.set_cons_zero, List.set_cons_succ])))
    go_ret
    refine ⟨_, _, _, _, rfl, ⟨own_lit w1 37 L100 1 12 (by rw [hLn100]) (by decide), fun g hg => by cases hg; show w.heap.size ≤ w1.heap.size; omega⟩, ?_, h1.keep ((Keeps.refl (fun _ => False) w1).alloc _) (fun _ _ e => e) (fun e => e), K1.alloc _⟩
    unfold SL
    exact ⟨L100, [], by simp, V100.stay (alloc_stay _ _), SL.nil _ _ _ _⟩
set_option maxHeartbeats 1000000 in
set_option maxRecDepth 100000 in
theorem oth_b {d : Nat} (IH : CS d) {w : World} {r : Nat} {T R : Bs} (h : RdM w r T R) (hd : 10 * R.length + 4 ≤ d + 1) (g1 : tok R ≠ kIf) : Calls Tryz.prog 69 #[pR r] w (RetL (oth (d + 1) R) w r T) := by
  have hr := h.lt
  have y2 := h.c.c 2 _ rfl
  rw [oth, if_neg g1]
  have e1 : ((bs (tok R)).toList == [105, 102]) = false := by rw [bs_toList]; exact beq_eq_false_iff_ne.2 g1
  clear g1
  generalize bs (tok R) = K at *
  have hS0 := fun W (h : RdM W r T R) => IH.blk W r T R h (by omega)
  cases hn0 : blk d R with
  | error E =>
    rw [hn0] at hS0
    show Calls _ _ _ _ (fun e w' => e = panT T E ∧ Keeps (fun k => k = r) w w')
    go_enter Tryz.func69, Tryz.ntmps69
    go_wp2_with (go_at_call 49; refine (hS0 _ h).mono ?_; rintro e w1 ⟨rfl, k1⟩; have K1 : Keeps (fun k => k = r) w w1 := (Keeps.refl _ w).trans k1)
    exact ⟨rfl, rfl, K1⟩
  | ok z0 =>
    obtain ⟨t0, R1⟩ := z0
    rw [hn0] at hS0
    have hl0 : R1.length < R.length := (rs_lt d).2.2.2.2 _ _ _ hn0
    (try dsimp only [thr, thn])
    show Calls _ _ _ _ (fun e w' => ∃ (p : Option Addr) (m c : Nat) (xs : List Value), e = .returned (.slice p m c) ∧ OwnP w' (fun g => w.heap.size ≤ g) 37 12 (.slice p m c) (t0).length xs ∧ SL w' (fun g => w.heap.size ≤ g) 35 37 (t0) xs ∧ RdM w' r T R1 ∧ Keeps (fun k => k = r) w w')
    go_enter Tryz.func69, Tryz.ntmps69
    go_wp2_with (first | (go_at_call 49; refine (hS0 _ h).mono ?_; rintro e w1 ⟨p100, m100, c100, xs100, rfl, ou0, u0, h1, kk1⟩; have k1 := kk1; have Z1 := k1.size; have K1 : Keeps (fun k => k = r) w w1 := (Keeps.refl _ w).trans k1; have O100 : OwnP w1 (fun g => w.heap.size ≤ g) 37 12 (.slice p100 m100 c100) t0.length xs100 := ou0.mono (fun g hg => (by omega)); have X100 : SL w1 (fun g => w.heap.size ≤ g) 35 37 t0 xs100 := u0.mono (fun g hg => (by omega)); clear hS0))
    go_ret
    exact ⟨_, _, _, _, rfl, O100, X100, h1, K1⟩
set_option maxHeartbeats 1000000 in
set_option maxRecDepth 100000 in
theorem stm_i {d : Nat} (IH : CS d) {w : World} {r : Nat} {T R : Bs} (h : RdM w r T R) (hd : 10 * R.length + 4 ≤ d + 1) (ht : tok R = kIf) : Calls Tryz.prog 33 #[pR r] w (RetS (stm (d + 1) R) w r T) := by
  have hr := h.lt
  have hr12 : ∀ i, i < 12 → ¬ i = r := fun i hi e => by have := h.low; omega
  have nb : ¬ w.heap.size = r := by omega
  have y2 : ∀ ob, (w.alloc ob).cell? ⟨r, 2, none⟩ = some (.string (bs (tok R))) := fun ob => ((Keeps.refl (fun _ => False) w).alloc ob).cell (h.c.c 2 _ rfl) (fun e => e)
  have hA := fun ob => h.keep ((Keeps.refl (fun _ => False) w).alloc ob) (fun _ _ e => e) (fun e => e)
  have m0 := CL.made w zS 37
  rw [stm, if_pos ht]
  have e1 : ((bs (tok R)).toList == [105, 102]) = true := by rw [bs_toList, ht]; rfl
  have e2 : ((bs (tok R)).toList == [119, 104, 105, 108, 101]) = false := by rw [bs_toList, ht]; rfl
  clear ht
  generalize bs (tok R) = K at *
  have hS0 := fun W (h : RdM W r T R) => IH.brn W r T R h (by omega)
  cases hn0 : brn d R with
  | error E =>
    rw [hn0] at hS0
    show Calls _ _ _ _ (fun e w' => e = panT T E ∧ Keeps (fun k => k = r) w w')
    go_enter Tryz.func33, Tryz.ntmps33
    go_wp2_with (go_at_call 47; refine (hS0 _ (hA _)).mono ?_; rintro e w1 ⟨rfl, k1⟩; have K1 : Keeps (fun k => k = r) w w1 := ((Keeps.refl _ w).alloc _).trans k1)
    exact ⟨rfl, rfl, K1⟩
  | ok z0 =>
    obtain ⟨t0, R1⟩ := z0
    rw [hn0] at hS0
    have hl0 : R1.length < R.length := (rs_lt d).2.2.1 _ _ _ hn0
    (try dsimp only [thr, thn])
    show Calls _ _ _ _ (fun e w' => ∃ L : List Value, One L ∧ L.length = 12 ∧ e = .returned (.agg L.toArray) ∧ SC w' (fun g => w.heap.size ≤ g) 35 37 (t0) L ∧ RdM w' r T R1 ∧ Keeps (fun k => k = r) w w')
    go_enter Tryz.func33, Tryz.ntmps33
    go_wp2_with (first | (go_at_call 47; refine (hS0 _ (hA _)).mono ?_; rintro e w1 ⟨L100, hLo100, hLn100, rfl, u0, h1, kk1⟩; have k1 := kk1; have Z1 := k1.size; simp only [World.size_alloc] at Z1; have K1 : Keeps (fun k => k = r) w w1 := ((Keeps.refl _ w).alloc _).trans k1; have M1 := m0.keep (by show 0 < 12; decide) k1 nb; have V100 : SC w1 (fun g => w.heap.size < g) 35 37 t0 L100 := u0.mono (fun g hg => (by simp only [World.size_alloc] at hg; omega)); clear hS0) | (refine wpList_store_cl rfl 37 _ _ rfl w.heap.size 0 12 L100.toArray rfl rfl (by rw [List.size_toArray]; exact hLn100) M1 (by show 12 ≤ 12; decide) iSt hLo100 ?_; intro w9 hc9 k9 zz9; clear zz9))
    have hc6 := cl_whole hc9 hLn100
    have hrn := run_st hc6 hLn100
    refine bodyPost_ret (v := .agg L100.toArray) (by rw [results_cell1 rfl]; simp [asAddr, hrn]) rfl ?_
    exact ⟨_, hLo100, hLn100, rfl, (V100.stay (k9.stay (fun i hi _ e => by omega))).mono (fun g hg => by omega), h1.keep k9 (fun i hi e => by have := h1.low; omega) (fun e => by omega), K1.trans' k9 (fun _ _ e => e) (fun i hi e => by omega)⟩
set_option maxHeartbeats 1000000 in
set_option maxRecDepth 100000 in
theorem stm_w {d : Nat} (IH : CS d) {w : World} {r : Nat} {T R : Bs} (h : RdM w r T R) (hd : 10 * R.length + 4 ≤ d + 1) (ht : tok R = kWhile) : Calls Tryz.prog 33 #[pR r] w (RetS (stm (d + 1) R) w r T) := by
  have hr := h.lt
  have hr12 : ∀ i, i < 12 → ¬ i = r := fun i hi e => by have := h.low; omega
  have nb : ¬ w.heap.size = r := by omega
  have y2 : ∀ ob, (w.alloc ob).cell? ⟨r, 2, none⟩ = some (.string (bs (tok R))) := fun ob => ((Keeps.refl (fun _ => False) w).alloc ob).cell (h.c.c 2 _ rfl) (fun e => e)
  have hA := fun ob => h.keep ((Keeps.refl (fun _ => False) w).alloc ob) (fun _ _ e => e) (fun e => e)
  have m0 := CL.made w zS 37
  have hne : tok R ≠ [] := by rw [ht]; decide
  rw [stm, if_neg (by rw [ht]; decide), if_pos ht]
  have e1 : ((bs (tok R)).toList == [105, 102]) = false := by rw [bs_toList, ht]; rfl
  have e2 : ((bs (tok R)).toList == [119, 104, 105, 108, 101]) = true := by rw [bs_toList, ht]; rfl
  clear ht
  generalize bs (tok R) = K at *
  cases hn0 : nxt R with
  | error E =>
    have hS0 := fun W (h : RdM W r T R) => next_no h hn0
    show Calls _ _ _ _ (fun e w' => e = panT T E ∧ Keeps (fun k => k = r) w w')
    go_enter Tryz.func33, Tryz.ntmps33
    go_wp2_with (go_at_call 32; refine (hS0 _ (hA _)).mono ?_; rintro e w1 ⟨rfl, k1⟩; have K1 : Keeps (fun k => k = r) w w1 := ((Keeps.refl _ w).alloc _).trans k1)
    exact ⟨rfl, rfl, K1⟩
  | ok R1 =>
    have hS0 := fun W (h : RdM W r T R) => next_ok h hn0
    have hl0 : R1.length < R.length := nxt_lt hn0 hne
    (try dsimp only [thr, thn])
    have hS1 := fun W (h : RdM W r T R1) => (ce_all FU).ex W r T R1 1 h (by have := h.rl; unfold FU; omega) (by decide) (by decide)
    rw [show ((1 : Nat) : Int) = 1 from rfl] at hS1
    cases hn1 : ex FU 1 R1 with
    | error E =>
      rw [hn1] at hS1
      show Calls _ _ _ _ (fun e w' => e = panT T E ∧ Keeps (fun k => k = r) w w')
      go_enter Tryz.func33, Tryz.ntmps33
      go_wp2_with (first | (go_at_call 32; refine (hS0 _ (hA _)).mono ?_; rintro e w1 ⟨rfl, h1, k1⟩; have Z1 := k1.size; simp only [World.size_alloc] at Z1; have K1 : Keeps (fun k => k = r) w w1 := ((Keeps.refl _ w).alloc _).trans k1; have M1 := m0.keep (by show 0 < 12; decide) k1 nb; clear hS0) | (go_at_call 48; refine (hS1 _ h1).mono ?_; rintro e w2 ⟨rfl, k2⟩; have K2 : Keeps (fun k => k = r) w w2 := K1.trans k2))
      exact ⟨rfl, rfl, K2⟩
    | ok z1 =>
      obtain ⟨t1, R2⟩ := z1
      rw [hn1] at hS1
      have hl1 : R2.length < R1.length := (rd_lt FU).1 _ _ _ _ (Nat.le_refl _) hn1
      (try dsimp only [thr, thn])
      have hS2 := fun W (h : RdM W r T R2) => IH.blk W r T R2 h (by omega)
      cases hn2 : blk d R2 with
      | error E =>
        rw [hn2] at hS2
        show Calls _ _ _ _ (fun e w' => e = panT T E ∧ Keeps (fun k => k = r) w w')
        go_enter Tryz.func33, Tryz.ntmps33
        go_wp2_with (first | (go_at_call 32; refine (hS0 _ (hA _)).mono ?_; rintro e w1 ⟨rfl, h1, k1⟩; have Z1 := k1.size; simp only [World.size_alloc] at Z1; have K1 : Keeps (fun k => k = r) w w1 := ((Keeps.refl _ w).alloc _).trans k1; have M1 := m0.keep (by show 0 < 12; decide) k1 nb; clear hS0) | (go_at_call 48; refine (hS1 _ h1).mono ?_; rintro e w2 ⟨k101, n101, s101, p101, m101, c101, rfl, u1, h2, kk2⟩; have k2 := kk2; have Z2 := k2.size; have K2 : Keeps (fun k => k = r) w w2 := K1.trans k2; have M2 := M1.keep (by show 0 < 12; decide) k2 nb; have T101 : TC w2 (fun g => w.heap.size < g) 35 t1 [.int .i64 k101, .int .i64 n101, .string s101, .slice p101 m101 c101] := u1.mono (fun g hg => (by omega)); clear hS1) | (go_at_call 49; refine (hS2 _ h2).mono ?_; rintro e w3 ⟨rfl, k3⟩; have K3 : Keeps (fun k => k = r) w w3 := K2.trans k3))
        exact ⟨rfl, rfl, K3⟩
      | ok z2 =>
        obtain ⟨t2, R3⟩ := z2
        rw [hn2] at hS2
        have hl2 : R3.length < R2.length := (rs_lt d).2.2.2.2 _ _ _ hn2
        (try dsimp only [thr, thn])
        show Calls _ _ _ _ (fun e w' => ∃ L : List Value, One L ∧ L.length = 12 ∧ e = .returned (.agg L.toArray) ∧ SC w' (fun g => w.heap.size ≤ g) 35 37 (.mk 5 [] t1 tr0 t2 []) L ∧ RdM w' r T R3 ∧ Keeps (fun k => k = r) w w')
        go_enter Tryz.func33, Tryz.ntmps33
        go_wp2_with (first | (go_at_call 32; refine (hS0 _ (hA _)).mono ?_; rintro e w1 ⟨rfl, h1, k1⟩; have Z1 := k1.size; simp only [World.size_alloc] at Z1; have K1 : Keeps (fun k => k = r) w w1 := ((Keeps.refl _ w).alloc _).trans k1; have M1 := m0.keep (by show 0 < 12; decide) k1 nb; clear hS0) | (go_at_call 48; refine (hS1 _ h1).mono ?_; rintro e w2 ⟨k101, n101, s101, p101, m101, c101, rfl, u1, h2, kk2⟩; have k2 := kk2; have Z2 := k2.size; have K2 : Keeps (fun k => k = r) w w2 := K1.trans k2; have M2 := M1.keep (by show 0 < 12; decide) k2 nb; have T101 : TC w2 (fun g => w.heap.size < g) 35 t1 [.int .i64 k101, .int .i64 n101, .string s101, .slice p101 m101 c101] := u1.mono (fun g hg => (by omega)); clear hS1) | (go_at_call 49; refine (hS2 _ h2).mono ?_; rintro e w3 ⟨p102, m102, c102, xs102, rfl, ou2, u2, h3, kk3⟩; have k3 := kk3; have Z3 := k3.size; have K3 : Keeps (fun k => k = r) w w3 := K2.trans k3; have M3 := M2.keep (by show 0 < 12; decide) k3 nb; have T101 := T101.stay (k3.stay (fun i hi _ e => (by omega))); have O102 : OwnP w3 (fun g => w.heap.size < g) 37 12 (.slice p102 m102 c102) t2.length xs102 := ou2.mono (fun g hg => (by omega)); have X102 : SL w3 (fun g => w.heap.size < g) 35 37 t2 xs102 := u2.mono (fun g hg => (by omega)); clear hS2) | (refine wpList_store_cl rfl 37 _ _ rfl w.heap.size 0 12 _ rfl rfl rfl M3 (by show 12 ≤ 12; decide) iSt one12 ?_; intro w9 hc9 k9 zz9; clear zz9))
        have hc6 : CL w9 w.heap.size [.int .i64 5, .string (bs []), .int .i64 k101, .int .i64 n101, .string s101, .slice p101 m101 c101, .int .i64 0, .int .i64 0, .string { data := #[] }, .slice none 0 0, .slice p102 m102 c102, .slice none 0 0] := hc9
        have hrn := run_st hc6 rfl
        refine bodyPost_ret (v := .agg [.int .i64 5, .string (bs []), .int .i64 k101, .int .i64 n101, .string s101, .slice p101 m101 c101, .int .i64 0, .int .i64 0, .string { data := #[] }, .slice none 0 0, .slice p102 m102 c102, .slice none 0 0].toArray) (by rw [results_cell1 rfl]; simp [asAddr, hrn]) rfl ?_
        have st9 : Stay (fun g => w.heap.size < g) w3 w9 := k9.stay (fun i hi _ e => by omega)
        exact ⟨_, one12, rfl, rfl, (SC.mk (P := fun g => w.heap.size < g) (k := 5) (wd := []) (by unfold I64; omega) (by decide) (T101.stay st9) (tr0_cells w9 _ _) (O102.stay st9) (X102.stay st9) (ownP_nil _ _ _ _) (SL.nil _ _ _ _)).mono (fun g hg => by omega), h3.keep k9 (fun i hi e => by have := h3.low; omega) (fun e => by omega), K3.trans' k9 (fun _ _ e => e) (fun i hi e => by omega)⟩
set_option maxHeartbeats 1000000 in
set_option maxRecDepth 100000 in
theorem stm_s {d : Nat} {w : World} {r : Nat} {T R : Bs} (h : RdM w r T R) (g1 : tok R ≠ kIf) (g2 : tok R ≠ kWhile) : Calls Tryz.prog 33 #[pR r] w (RetS (stm (d + 1) R) w r T) := by
  have hr := h.lt
  have hr12 : ∀ i, i < 12 → ¬ i = r := fun i hi e => by have := h.low; omega
  have nb : ¬ w.heap.size = r := by omega
  have y2 : ∀ ob, (w.alloc ob).cell? ⟨r, 2, none⟩ = some (.string (bs (tok R))) := fun ob => ((Keeps.refl (fun _ => False) w).alloc ob).cell (h.c.c 2 _ rfl) (fun e => e)
  have hA := fun ob => h.keep ((Keeps.refl (fun _ => False) w).alloc ob) (fun _ _ e => e) (fun e => e)
  have m0 := CL.made w zS 37
  rw [stm, if_neg g1, if_neg g2]
  have e1 : ((bs (tok R)).toList == [105, 102]) = false := by rw [bs_toList]; exact beq_eq_false_iff_ne.2 g1
  have e2 : ((bs (tok R)).toList == [119, 104, 105, 108, 101]) = false := by rw [bs_toList]; exact beq_eq_false_iff_ne.2 g2
  clear g1 g2
  generalize bs (tok R) = K at *
  have hS0 := fun W (h : RdM W r T R) => smp_any h
  cases hn0 : smp R with
  | error E =>
    rw [hn0] at hS0
    show Calls _ _ _ _ (fun e w' => e = panT T E ∧ Keeps (fun k => k = r) w w')
    go_enter Tryz.func33, Tryz.ntmps33
    go_wp2_with (go_at_call 50; refine (hS0 _ (hA _)).mono ?_; rintro e w1 ⟨rfl, k1⟩; have K1 : Keeps (fun k => k = r) w w1 := ((Keeps.refl _ w).alloc _).trans k1)
    exact ⟨rfl, rfl, K1⟩
  | ok z0 =>
    obtain ⟨t0, R1⟩ := z0
    rw [hn0] at hS0
    have hl0 : R1.length < R.length := smp_lt hn0
    (try dsimp only [thr, thn])
    cases hn2 : need [59] R1 with
    | error E =>
      have hS2 := fun W (h : RdM W r T R1) => need_noC h hn2
      show Calls _ _ _ _ (fun e w' => e = panT T E ∧ Keeps (fun k => k = r) w w')
      go_enter Tryz.func33, Tryz.ntmps33
      go_wp2_with (first | (go_at_call 50; refine (hS0 _ (hA _)).mono ?_; rintro e w1 ⟨L100, hLo100, hLn100, rfl, u0, h1, kk1⟩; have k1 := kk1; have Z1 := k1.size; simp only [World.size_alloc] at Z1; have K1 : Keeps (fun k => k = r) w w1 := ((Keeps.refl _ w).alloc _).trans k1; have M1 := m0.keep (by show 0 < 12; decide) k1 nb; have V100 : SC w1 (fun g => w.heap.size < g) 35 37 t0 L100 := u0.mono (fun g hg => (by simp only [World.size_alloc] at hg; omega)); clear hS0) | (refine wpList_store_cl rfl 37 _ _ rfl w1.heap.size 0 12 L100.toArray rfl rfl (by rw [List.size_toArray]; exact hLn100) (CL.made w1 zS 37) (by show 12 ≤ 12; decide) iSt hLo100 ?_; intro w2 hb2 k2 zz2; clear zz2; have hb2 := cl_whole hb2 hLn100; have Z2 := k2.size; simp only [World.size_alloc] at Z2; have K2 : Keeps (fun k => k = r) w w2 := (K1.alloc _).trans' k2 (fun _ _ e => e) (fun i hi e => (by omega)); have M2 := (M1.alloc (by show 0 < 12; decide) _).keep (by show 0 < 12; decide) k2 (fun e => (by omega)); have h2 := (h1.keep ((Keeps.refl (fun _ => False) w1).alloc _) (fun _ _ e => e) (fun e => e)).keep k2 (fun i hi e => (by have := h1.low; omega)) (fun e => (by omega)); have V100 := ((V100.lt.stay (alloc_stay _ _)).stay (k2.stay (fun i hi _ e => (by have := hi.2; omega)))).mono (fun g hg => hg.1)) | (go_at_call 51; refine (hS2 _ h2).mono ?_; rintro e w3 ⟨rfl, k3⟩; have K3 : Keeps (fun k => k = r) w w3 := K2.trans k3))
      exact ⟨rfl, rfl, K3⟩
    | ok R3 =>
      have hS2 := fun W (h : RdM W r T R1) => need_okC h hn2
      have hl2 : R3.length < R1.length := need_lt hn2 (by decide)
      (try dsimp only [thr, thn])
      show Calls _ _ _ _ (fun e w' => ∃ L : List Value, One L ∧ L.length = 12 ∧ e = .returned (.agg L.toArray) ∧ SC w' (fun g => w.heap.size ≤ g) 35 37 (t0) L ∧ RdM w' r T R3 ∧ Keeps (fun k => k = r) w w')
      go_enter Tryz.func33, Tryz.ntmps33
      go_wp2_with (first | (go_at_call 50; refine (hS0 _ (hA _)).mono ?_; rintro e w1 ⟨L100, hLo100, hLn100, rfl, u0, h1, kk1⟩; have k1 := kk1; have Z1 := k1.size; simp only [World.size_alloc] at Z1; have K1 : Keeps (fun k => k = r) w w1 := ((Keeps.refl _ w).alloc _).trans k1; have M1 := m0.keep (by show 0 < 12; decide) k1 nb; have V100 : SC w1 (fun g => w.heap.size < g) 35 37 t0 L100 := u0.mono (fun g hg => (by simp only [World.size_alloc] at hg; omega)); clear hS0) | (refine wpList_store_cl rfl 37 _ _ rfl w1.heap.size 0 12 L100.toArray rfl rfl (by rw [List.size_toArray]; exact hLn100) (CL.made w1 zS 37) (by show 12 ≤ 12; decide) iSt hLo100 ?_; intro w2 hb2 k2 zz2; clear zz2; have hb2 := cl_whole hb2 hLn100; have Z2 := k2.size; simp only [World.size_alloc] at Z2; have K2 : Keeps (fun k => k = r) w w2 := (K1.alloc _).trans' k2 (fun _ _ e => e) (fun i hi e => (by omega)); have M2 := (M1.alloc (by show 0 < 12; decide) _).keep (by show 0 < 12; decide) k2 (fun e => (by omega)); have h2 := (h1.keep ((Keeps.refl (fun _ => False) w1).alloc _) (fun _ _ e => e) (fun e => e)).keep k2 (fun i hi e => (by have := h1.low; omega)) (fun e => (by omega)); have V100 := ((V100.lt.stay (alloc_stay _ _)).stay (k2.stay (fun i hi _ e => (by have := hi.2; omega)))).mono (fun g hg => hg.1)) | (go_at_call 51; refine (hS2 _ h2).mono ?_; rintro e w3 ⟨rfl, h3, k3⟩; have Z3 := k3.size; have K3 : Keeps (fun k => k = r) w w3 := K2.trans k3; have M3 := M2.keep (by show 0 < 12; decide) k3 nb; have V100 := V100.stay (k3.stay (fun i hi _ e => (by omega))); have hb2 := hb2.keep (by show 0 < L100.length; omega) k3 (fun e => (by omega)); clear hS2) | (refine wpList_load_runL rfl 37 _ rfl ⟨w1.heap.size, 0, none⟩ rfl _ (run_st hb2 hLn100) ?_) | (refine wpList_store_cl rfl 37 _ _ rfl w.heap.size 0 12 L100.toArray rfl rfl (by rw [List.size_toArray]; exact hLn100) M3 (by show 12 ≤ 12; decide) iSt hLo100 ?_; intro w9 hc9 k9 zz9; clear zz9))
      have hc6 := cl_whole hc9 hLn100
      have hrn := run_st hc6 hLn100
      refine bodyPost_ret (v := .agg L100.toArray) (by rw [results_cell1 rfl]; simp [asAddr, hrn]) rfl ?_
      exact ⟨_, hLo100, hLn100, rfl, (V100.stay (k9.stay (fun i hi _ e => by omega))).mono (fun g hg => by omega), h3.keep k9 (fun i hi e => by have := h3.low; omega) (fun e => by omega), K3.trans' k9 (fun _ _ e => e) (fun i hi e => by omega)⟩
end Go.Proofs.YtehblpbefkopbaaGreatDoor
