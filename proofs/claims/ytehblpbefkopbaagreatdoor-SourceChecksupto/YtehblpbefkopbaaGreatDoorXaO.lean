import Derived.Test.YtehblpbefkopbaaGreatDoorXaN
namespace Go.Proofs.YtehblpbefkopbaaGreatDoor
open Go.RowKit Go.ChangeShapes Go.WideShapes Go.ChangeAt Go.Deep
attribute [local go_sem] Oper.semAt_some run_store_nf run_store_f
abbrev zS : List Value := [.int .i64 0, .string { data := #[] }, .int .i64 0, .int .i64 0, .string { data := #[] }, .slice none 0 0, .int .i64 0, .int .i64 0, .string { data := #[] }, .slice none 0 0, .slice none 0 0, .slice none 0 0]
theorem iSt : (Tryz.prog.info? 37).map (·.size) = some 12 := by kernel_rfl
theorem inSt : (Tryz.prog.info? 37).map (fun i => (i.zero, i.size, i.bytes)) = some (some (.agg zS.toArray), 12, 184) := by kernel_rfl
theorem uSt : Tryz.prog.underlying 25 = some (.slice 37) := by kernel_rfl
theorem run_st {W : World} {b : Nat} {L : List Value} (h : CL W b L) (hl : L.length = 12) : (loadVar 37 ⟨b, 0, none⟩).run Tryz.prog W = .ok (.agg L.toArray) W :=
  run_loadVar_mid W b 0 37 L _ (fun j v e => by have := h.c j v e; rwa [Nat.zero_add]) Tryz.underlying37 rfl (by rw [iSt, hl])
theorem cl_whole {W : World} {b : Nat} {L : List Value} (h : CL W b (sets zS 0 L.toArray.toList)) (hl : L.length = 12) : CL W b L := by
  have e : sets zS 0 L.toArray.toList = L := by
    unfold sets
    simp [hl]
  rwa [e] at h
theorem one12 {a k1 n1 k2 n2 : Int} {s s1 s2 : ByteArray} {p1 p2 p3 p4 : Option Addr} {m1 c1 m2 c2 m3 c3 m4 c4 : Nat} : ([.int .i64 a, .string s, .int .i64 k1, .int .i64 n1, .string s1, .slice p1 m1 c1, .int .i64 k2, .int .i64 n2, .string s2, .slice p2 m2 c2, .slice p3 m3 c3, .slice p4 m4 c4] : List Value).toArray.all (·.oneCell') = true := all_oneCell_toArray (by simp [Value.oneCell'])
/-- Each of them takes one cell. -/
def One (L : List Value) : Prop := L.toArray.all (·.oneCell') = true
/-- What a reading of a statement comes to. -/
def RetS (x : Except Bs (St × Bs)) (w : World) (r : Nat) (T : Bs) (e : Ending) (w' : World) : Prop := match x with
  | .ok (s, R1) => ∃ L : List Value, One L ∧ L.length = 12 ∧ e = .returned (.agg L.toArray) ∧ SC w' (fun g => w.heap.size ≤ g) 35 37 s L ∧ RdM w' r T R1 ∧ Keeps (fun k => k = r) w w'
  | .error E => e = panT T E ∧ Keeps (fun k => k = r) w w'
/-- What a reading of statements comes to. -/
def RetL (x : Except Bs (List St × Bs)) (w : World) (r : Nat) (T : Bs) (e : Ending) (w' : World) : Prop := match x with
  | .ok (l, R1) => ∃ (p : Option Addr) (m c : Nat) (xs : List Value), e = .returned (.slice p m c) ∧ OwnP w' (fun g => w.heap.size ≤ g) 37 12 (.slice p m c) l.length xs ∧ SL w' (fun g => w.heap.size ≤ g) 35 37 l xs ∧ RdM w' r T R1 ∧ Keeps (fun k => k = r) w w'
  | .error E => e = panT T E ∧ Keeps (fun k => k = r) w w'
theorem ownP_nil (w : World) (P : Nat → Prop) (e : TypeId) (s : Nat) : OwnP w P e s (.slice none 0 0) 0 [] := ⟨⟨by simp, .inl ⟨rfl, rfl⟩⟩, fun g hg => by cases hg⟩
theorem SL.nil (w : World) (P : Nat → Prop) (e s : TypeId) : SL w P e s [] [] := by unfold SL; rfl
/-- A statement of its parts. -/
theorem SC.mk {w : World} {P : Nat → Prop} {e s : TypeId} {k : Int} {wd : Bs} {a b : Tr} {th el : List St} {la lb xs ys : List Value} {tv ev : Value} (hk : I64 k) (hw : wd.length ≤ 140737488355328) (h1 : TC w P e a la) (h2 : TC w P e b lb) (h3 : OwnP w P s 12 tv th.length xs) (h4 : SL w P e s th xs) (h5 : OwnP w P s 12 ev el.length ys) (h6 : SL w P e s el ys) :
    SC w P e s (.mk k wd a b th el) (.int .i64 k :: .string (bs wd) :: (la ++ (lb ++ [tv, ev]))) := by
  unfold SC
  exact ⟨hk, hw, la, lb, tv, ev, xs, ys, rfl, h1, h2, h3, h4, h5, h6⟩
theorem SC.flat {w : World} {P : Nat → Prop} {e s : TypeId} {k : Int} {wd : Bs} {a b : Tr} {ka na kb nb : Int} {sa sb : ByteArray} {pa pb : Option Addr} {ma ca mb cb : Nat} (hk : I64 k) (hw : wd.length ≤ 140737488355328) (h1 : TC w P e a [.int .i64 ka, .int .i64 na, .string sa, .slice pa ma ca]) (h2 : TC w P e b [.int .i64 kb, .int .i64 nb, .string sb, .slice pb mb cb]) :
    SC w P e s (.mk k wd a b [] []) [.int .i64 k, .string (bs wd), .int .i64 ka, .int .i64 na, .string sa, .slice pa ma ca, .int .i64 kb, .int .i64 nb, .string sb, .slice pb mb cb, .slice none 0 0, .slice none 0 0] :=
  SC.mk hk hw h1 h2 (ownP_nil _ _ _ _) (SL.nil _ _ _ _) (ownP_nil _ _ _ _) (SL.nil _ _ _ _)
set_option maxHeartbeats 1000000 in
set_option maxRecDepth 100000 in
theorem smp_r {w : World} {r : Nat} {T R : Bs} (h : RdM w r T R) (ht : tok R = kRel) : Calls Tryz.prog 50 #[pR r] w (RetS (smp R) w r T) := by
  have hr := h.lt
  have hr12 : ∀ i, i < 12 → ¬ i = r := fun i hi e => by have := h.low; omega
  have nb : ¬ w.heap.size = r := by omega
  have y2 : ∀ ob, (w.alloc ob).cell? ⟨r, 2, none⟩ = some (.string (bs (tok R))) := fun ob => ((Keeps.refl (fun _ => False) w).alloc ob).cell (h.c.c 2 _ rfl) (fun e => e)
  have hA := fun ob => h.keep ((Keeps.refl (fun _ => False) w).alloc ob) (fun _ _ e => e) (fun e => e)
  have m0 := CL.made w zS 37
  unfold smp
  rw [if_neg (by rw [ht]; decide), if_pos ht]
  have e1 : ((bs (tok R)).toList == [91]) = false := by rw [bs_toList, ht]; rfl
  have e2 : ((bs (tok R)).toList == [114, 101, 108, 101, 97, 115, 101]) = true := by rw [bs_toList, ht]; rfl
  have e3 : ((bs (tok R)).toList == [97, 98, 111, 114, 116]) = false := by rw [bs_toList, ht]; rfl
  have e4 : ((bs (tok R)).toList == [114, 101, 116, 117, 114, 110]) = false := by rw [bs_toList, ht]; rfl
  generalize bs (tok R) = K at *
  cases hn0 : nxt R with
  | error E =>
    have hS0 := fun W (h : RdM W r T R) => next_no h hn0
    show Calls _ _ _ _ (fun e w' => e = panT T E ∧ Keeps (fun k => k = r) w w')
    go_enter Tryz.func50, Tryz.ntmps50
    go_wp2_with (go_at_call 32; refine (hS0 _ (hA _)).mono ?_; rintro e w1 ⟨rfl, k1⟩; have K1 : Keeps (fun k => k = r) w w1 := ((Keeps.refl _ w).alloc _).trans k1)
    exact ⟨rfl, rfl, K1⟩
  | ok R1 =>
    have hS0 := fun W (h : RdM W r T R) => next_ok h hn0
    have hl0 : R1.length < R.length := nxt_lt hn0 (by rw [ht]; decide)
    (try dsimp only [thr, thn])
    have hS1 := fun W (h : RdM W r T R1) => (ce_all FU).obj W r T R1 h (by have := h.rl; unfold FU; omega)
    cases hn1 : obj FU R1 with
    | error E =>
      rw [hn1] at hS1
      show Calls _ _ _ _ (fun e w' => e = panT T E ∧ Keeps (fun k => k = r) w w')
      go_enter Tryz.func50, Tryz.ntmps50
      go_wp2_with (first | (go_at_call 32; refine (hS0 _ (hA _)).mono ?_; rintro e w1 ⟨rfl, h1, k1⟩; have Z1 := k1.size; simp only [World.size_alloc] at Z1; have K1 : Keeps (fun k => k = r) w w1 := ((Keeps.refl _ w).alloc _).trans k1; have M1 := m0.keep (by show 0 < 12; decide) k1 nb; clear hS0) | (go_at_call 73; refine (hS1 _ h1).mono ?_; rintro e w2 ⟨rfl, k2⟩; have K2 : Keeps (fun k => k = r) w w2 := K1.trans k2))
      exact ⟨rfl, rfl, K2⟩
    | ok z1 =>
      obtain ⟨t1, R2⟩ := z1
      rw [hn1] at hS1
      have hl1 : R2.length < R1.length := (rd_lt FU).2.2.2.2.1 _ _ _ hn1
      (try dsimp only [thr, thn])
      show Calls _ _ _ _ (fun e w' => ∃ L : List Value, One L ∧ L.length = 12 ∧ e = .returned (.agg L.toArray) ∧ SC w' (fun g => w.heap.size ≤ g) 35 37 (.mk 3 [] t1 tr0 [] []) L ∧ RdM w' r T R2 ∧ Keeps (fun k => k = r) w w')
      go_enter Tryz.func50, Tryz.ntmps50
      go_wp2_with (first | (go_at_call 32; refine (hS0 _ (hA _)).mono ?_; rintro e w1 ⟨rfl, h1, k1⟩; have Z1 := k1.size; simp only [World.size_alloc] at Z1; have K1 : Keeps (fun k => k = r) w w1 := ((Keeps.refl _ w).alloc _).trans k1; have M1 := m0.keep (by show 0 < 12; decide) k1 nb; clear hS0) | (go_at_call 73; refine (hS1 _ h1).mono ?_; rintro e w2 ⟨k101, n101, s101, p101, m101, c101, rfl, u1, h2, kk2⟩; have k2 := kk2; have Z2 := k2.size; have K2 : Keeps (fun k => k = r) w w2 := K1.trans k2; have M2 := M1.keep (by show 0 < 12; decide) k2 nb; have T101 : TC w2 (fun g => w.heap.size < g) 35 t1 [.int .i64 k101, .int .i64 n101, .string s101, .slice p101 m101 c101] := u1.mono (fun g hg => (by omega)); clear hS1) | (refine wpList_store_cl rfl 37 _ _ rfl w.heap.size 0 12 _ rfl rfl rfl M2 (by show 12 ≤ 12; decide) iSt one12 ?_; intro w9 hc9 k9 zz9; clear zz9))
      have hc6 : CL w9 w.heap.size [.int .i64 3, .string (bs []), .int .i64 k101, .int .i64 n101, .string s101, .slice p101 m101 c101, .int .i64 0, .int .i64 0, .string { data := #[] }, .slice none 0 0, .slice none 0 0, .slice none 0 0] := hc9
      have hrn := run_st hc6 rfl
      refine bodyPost_ret (v := .agg [.int .i64 3, .string (bs []), .int .i64 k101, .int .i64 n101, .string s101, .slice p101 m101 c101, .int .i64 0, .int .i64 0, .string { data := #[] }, .slice none 0 0, .slice none 0 0, .slice none 0 0].toArray) (by rw [results_cell1 rfl]; simp [asAddr, hrn]) rfl ?_
      exact ⟨_, one12, rfl, rfl, (SC.flat (P := fun g => w.heap.size < g) (by unfold I64; omega) (by decide) (T101.stay (k9.stay (fun i hi _ e => by omega))) (tr0_cells w9 _ _)).mono (fun g hg => by omega), h2.keep k9 (fun i hi e => by have := h2.low; omega) (fun e => by omega), K2.trans' k9 (fun _ _ e => e) (fun i hi e => by omega)⟩
set_option maxHeartbeats 1000000 in
set_option maxRecDepth 100000 in
theorem smp_a {w : World} {r : Nat} {T R : Bs} (h : RdM w r T R) (ht : tok R = kAbort) : Calls Tryz.prog 50 #[pR r] w (RetS (smp R) w r T) := by
  have hr := h.lt
  have hr12 : ∀ i, i < 12 → ¬ i = r := fun i hi e => by have := h.low; omega
  have nb : ¬ w.heap.size = r := by omega
  have y2 : ∀ ob, (w.alloc ob).cell? ⟨r, 2, none⟩ = some (.string (bs (tok R))) := fun ob => ((Keeps.refl (fun _ => False) w).alloc ob).cell (h.c.c 2 _ rfl) (fun e => e)
  have hA := fun ob => h.keep ((Keeps.refl (fun _ => False) w).alloc ob) (fun _ _ e => e) (fun e => e)
  have m0 := CL.made w zS 37
  unfold smp
  rw [if_neg (by rw [ht]; decide), if_neg (by rw [ht]; decide), if_pos ht]
  have e1 : ((bs (tok R)).toList == [91]) = false := by rw [bs_toList, ht]; rfl
  have e2 : ((bs (tok R)).toList == [114, 101, 108, 101, 97, 115, 101]) = false := by rw [bs_toList, ht]; rfl
  have e3 : ((bs (tok R)).toList == [97, 98, 111, 114, 116]) = true := by rw [bs_toList, ht]; rfl
  have e4 : ((bs (tok R)).toList == [114, 101, 116, 117, 114, 110]) = false := by rw [bs_toList, ht]; rfl
  generalize bs (tok R) = K at *
  cases hn0 : nxt R with
  | error E =>
    have hS0 := fun W (h : RdM W r T R) => next_no h hn0
    show Calls _ _ _ _ (fun e w' => e = panT T E ∧ Keeps (fun k => k = r) w w')
    go_enter Tryz.func50, Tryz.ntmps50
    go_wp2_with (go_at_call 32; refine (hS0 _ (hA _)).mono ?_; rintro e w1 ⟨rfl, k1⟩; have K1 : Keeps (fun k => k = r) w w1 := ((Keeps.refl _ w).alloc _).trans k1)
    exact ⟨rfl, rfl, K1⟩
  | ok R1 =>
    have hS0 := fun W (h : RdM W r T R) => next_ok h hn0
    have hl0 : R1.length < R.length := nxt_lt hn0 (by rw [ht]; decide)
    (try dsimp only [thr, thn])
    show Calls _ _ _ _ (fun e w' => ∃ L : List Value, One L ∧ L.length = 12 ∧ e = .returned (.agg L.toArray) ∧ SC w' (fun g => w.heap.size ≤ g) 35 37 (.mk 6 [] tr0 tr0 [] []) L ∧ RdM w' r T R1 ∧ Keeps (fun k => k = r) w w')
    go_enter Tryz.func50, Tryz.ntmps50
    go_wp2_with (first | (go_at_call 32; refine (hS0 _ (hA _)).mono ?_; rintro e w1 ⟨rfl, h1, k1⟩; have Z1 := k1.size; simp only [World.size_alloc] at Z1; have K1 : Keeps (fun k => k = r) w w1 := ((Keeps.refl _ w).alloc _).trans k1; have M1 := m0.keep (by show 0 < 12; decide) k1 nb; clear hS0) | (refine wpList_store_cl rfl 37 _ _ rfl w.heap.size 0 12 _ rfl rfl rfl M1 (by show 12 ≤ 12; decide) iSt one12 ?_; intro w9 hc9 k9 zz9; clear zz9))
    have hc6 : CL w9 w.heap.size [.int .i64 6, .string (bs []), .int .i64 0, .int .i64 0, .string { data := #[] }, .slice none 0 0, .int .i64 0, .int .i64 0, .string { data := #[] }, .slice none 0 0, .slice none 0 0, .slice none 0 0] := hc9
    have hrn := run_st hc6 rfl
    refine bodyPost_ret (v := .agg [.int .i64 6, .string (bs []), .int .i64 0, .int .i64 0, .string { data := #[] }, .slice none 0 0, .int .i64 0, .int .i64 0, .string { data := #[] }, .slice none 0 0, .slice none 0 0, .slice none 0 0].toArray) (by rw [results_cell1 rfl]; simp [asAddr, hrn]) rfl ?_
    exact ⟨_, one12, rfl, rfl, (SC.flat (P := fun g => w.heap.size < g) (by unfold I64; omega) (by decide) (tr0_cells w9 _ _) (tr0_cells w9 _ _)).mono (fun g hg => by omega), h1.keep k9 (fun i hi e => by have := h1.low; omega) (fun e => by omega), K1.trans' k9 (fun _ _ e => e) (fun i hi e => by omega)⟩
set_option maxHeartbeats 1000000 in
set_option maxRecDepth 100000 in
theorem smp_t {w : World} {r : Nat} {T R : Bs} (h : RdM w r T R) (ht : tok R = kRet) : Calls Tryz.prog 50 #[pR r] w (RetS (smp R) w r T) := by
  have hr := h.lt
  have hr12 : ∀ i, i < 12 → ¬ i = r := fun i hi e => by have := h.low; omega
  have nb : ¬ w.heap.size = r := by omega
  have y2 : ∀ ob, (w.alloc ob).cell? ⟨r, 2, none⟩ = some (.string (bs (tok R))) := fun ob => ((Keeps.refl (fun _ => False) w).alloc ob).cell (h.c.c 2 _ rfl) (fun e => e)
  have hA := fun ob => h.keep ((Keeps.refl (fun _ => False) w).alloc ob) (fun _ _ e => e) (fun e => e)
  have m0 := CL.made w zS 37
  unfold smp
  rw [if_neg (by rw [ht]; decide), if_neg (by rw [ht]; decide), if_neg (by rw [ht]; decide), if_pos ht]
  have e1 : ((bs (tok R)).toList == [91]) = false := by rw [bs_toList, ht]; rfl
  have e2 : ((bs (tok R)).toList == [114, 101, 108, 101, 97, 115, 101]) = false := by rw [bs_toList, ht]; rfl
  have e3 : ((bs (tok R)).toList == [97, 98, 111, 114, 116]) = false := by rw [bs_toList, ht]; rfl
  have e4 : ((bs (tok R)).toList == [114, 101, 116, 117, 114, 110]) = true := by rw [bs_toList, ht]; rfl
  generalize bs (tok R) = K at *
  cases hn0 : nxt R with
  | error E =>
    have hS0 := fun W (h : RdM W r T R) => next_no h hn0
    show Calls _ _ _ _ (fun e w' => e = panT T E ∧ Keeps (fun k => k = r) w w')
    go_enter Tryz.func50, Tryz.ntmps50
    go_wp2_with (go_at_call 32; refine (hS0 _ (hA _)).mono ?_; rintro e w1 ⟨rfl, k1⟩; have K1 : Keeps (fun k => k = r) w w1 := ((Keeps.refl _ w).alloc _).trans k1)
    exact ⟨rfl, rfl, K1⟩
  | ok R1 =>
    have hS0 := fun W (h : RdM W r T R) => next_ok h hn0
    have hl0 : R1.length < R.length := nxt_lt hn0 (by rw [ht]; decide)
    (try dsimp only [thr, thn])
    have hS1 := fun W (h : RdM W r T R1) => (ce_all FU).ex W r T R1 1 h (by have := h.rl; unfold FU; omega) (by decide) (by decide)
    rw [show ((1 : Nat) : Int) = 1 from rfl] at hS1
    cases hn1 : ex FU 1 R1 with
    | error E =>
      rw [hn1] at hS1
      show Calls _ _ _ _ (fun e w' => e = panT T E ∧ Keeps (fun k => k = r) w w')
      go_enter Tryz.func50, Tryz.ntmps50
      go_wp2_with (first | (go_at_call 32; refine (hS0 _ (hA _)).mono ?_; rintro e w1 ⟨rfl, h1, k1⟩; have Z1 := k1.size; simp only [World.size_alloc] at Z1; have K1 : Keeps (fun k => k = r) w w1 := ((Keeps.refl _ w).alloc _).trans k1; have M1 := m0.keep (by show 0 < 12; decide) k1 nb; clear hS0) | (go_at_call 48; refine (hS1 _ h1).mono ?_; rintro e w2 ⟨rfl, k2⟩; have K2 : Keeps (fun k => k = r) w w2 := K1.trans k2))
      exact ⟨rfl, rfl, K2⟩
    | ok z1 =>
      obtain ⟨t1, R2⟩ := z1
      rw [hn1] at hS1
      have hl1 : R2.length < R1.length := (rd_lt FU).1 _ _ _ _ (Nat.le_refl _) hn1
      (try dsimp only [thr, thn])
      show Calls _ _ _ _ (fun e w' => ∃ L : List Value, One L ∧ L.length = 12 ∧ e = .returned (.agg L.toArray) ∧ SC w' (fun g => w.heap.size ≤ g) 35 37 (.mk 7 [] t1 tr0 [] []) L ∧ RdM w' r T R2 ∧ Keeps (fun k => k = r) w w')
      go_enter Tryz.func50, Tryz.ntmps50
      go_wp2_with (first | (go_at_call 32; refine (hS0 _ (hA _)).mono ?_; rintro e w1 ⟨rfl, h1, k1⟩; have Z1 := k1.size; simp only [World.size_alloc] at Z1; have K1 : Keeps (fun k => k = r) w w1 := ((Keeps.refl _ w).alloc _).trans k1; have M1 := m0.keep (by show 0 < 12; decide) k1 nb; clear hS0) | (go_at_call 48; refine (hS1 _ h1).mono ?_; rintro e w2 ⟨k101, n101, s101, p101, m101, c101, rfl, u1, h2, kk2⟩; have k2 := kk2; have Z2 := k2.size; have K2 : Keeps (fun k => k = r) w w2 := K1.trans k2; have M2 := M1.keep (by show 0 < 12; decide) k2 nb; have T101 : TC w2 (fun g => w.heap.size < g) 35 t1 [.int .i64 k101, .int .i64 n101, .string s101, .slice p101 m101 c101] := u1.mono (fun g hg => (by omega)); clear hS1) | (refine wpList_store_cl rfl 37 _ _ rfl w.heap.size 0 12 _ rfl rfl rfl M2 (by show 12 ≤ 12; decide) iSt one12 ?_; intro w9 hc9 k9 zz9; clear zz9))
      have hc6 : CL w9 w.heap.size [.int .i64 7, .string (bs []), .int .i64 k101, .int .i64 n101, .string s101, .slice p101 m101 c101, .int .i64 0, .int .i64 0, .string { data := #[] }, .slice none 0 0, .slice none 0 0, .slice none 0 0] := hc9
      have hrn := run_st hc6 rfl
      refine bodyPost_ret (v := .agg [.int .i64 7, .string (bs []), .int .i64 k101, .int .i64 n101, .string s101, .slice p101 m101 c101, .int .i64 0, .int .i64 0, .string { data := #[] }, .slice none 0 0, .slice none 0 0, .slice none 0 0].toArray) (by rw [results_cell1 rfl]; simp [asAddr, hrn]) rfl ?_
      exact ⟨_, one12, rfl, rfl, (SC.flat (P := fun g => w.heap.size < g) (by unfold I64; omega) (by decide) (T101.stay (k9.stay (fun i hi _ e => by omega))) (tr0_cells w9 _ _)).mono (fun g hg => by omega), h2.keep k9 (fun i hi e => by have := h2.low; omega) (fun e => by omega), K2.trans' k9 (fun _ _ e => e) (fun i hi e => by omega)⟩
set_option maxHeartbeats 1000000 in
set_option maxRecDepth 100000 in
theorem smp_n {w : World} {r : Nat} {T R : Bs} (h : RdM w r T R) (g1 : tok R ≠ [91]) (g2 : tok R ≠ kRel) (g3 : tok R ≠ kAbort) (g4 : tok R ≠ kRet) (ht : isNm (tok R) = true) : Calls Tryz.prog 50 #[pR r] w (RetS (smp R) w r T) := by
  have hne := isNm_ne ht
  have hr := h.lt
  have hr12 : ∀ i, i < 12 → ¬ i = r := fun i hi e => by have := h.low; omega
  have nb : ¬ w.heap.size = r := by omega
  have y2 : ∀ ob, (w.alloc ob).cell? ⟨r, 2, none⟩ = some (.string (bs (tok R))) := fun ob => ((Keeps.refl (fun _ => False) w).alloc ob).cell (h.c.c 2 _ rfl) (fun e => e)
  have hA := fun ob => h.keep ((Keeps.refl (fun _ => False) w).alloc ob) (fun _ _ e => e) (fun e => e)
  have m0 := CL.made w zS 37
  have hTok := tok_rl h
  have hNm := fun ob => name_any (tok R) hTok (hA ob).g
  unfold smp
  rw [if_neg g1, if_neg g2, if_neg g3, if_neg g4, if_pos ht]
  rw [ht] at hNm
  clear ht
  have e1 : ((bs (tok R)).toList == [91]) = false := by rw [bs_toList]; exact beq_eq_false_iff_ne.2 g1
  have e2 : ((bs (tok R)).toList == [114, 101, 108, 101, 97, 115, 101]) = false := by rw [bs_toList]; exact beq_eq_false_iff_ne.2 g2
  have e3 : ((bs (tok R)).toList == [97, 98, 111, 114, 116]) = false := by rw [bs_toList]; exact beq_eq_false_iff_ne.2 g3
  have e4 : ((bs (tok R)).toList == [114, 101, 116, 117, 114, 110]) = false := by rw [bs_toList]; exact beq_eq_false_iff_ne.2 g4
  cases hn0 : nxt R with
  | error E =>
    have hS0 := fun W (h : RdM W r T R) => take_no h hn0
    show Calls _ _ _ _ (fun e w' => e = panT T E ∧ Keeps (fun k => k = r) w w')
    go_enter Tryz.func50, Tryz.ntmps50
    go_wp2_with (first | (go_at_call 52; refine (hNm _).mono ?_; rintro e w' ⟨rfl, rfl⟩) | (go_at_call 72; refine (hS0 _ (hA _)).mono ?_; rintro e w1 ⟨rfl, k1⟩; have K1 : Keeps (fun k => k = r) w w1 := ((Keeps.refl _ w).alloc _).trans k1))
    exact ⟨rfl, rfl, K1⟩
  | ok R1 =>
    have hS0 := fun W (h : RdM W r T R) => take_ok h hn0
    have hl0 : R1.length < R.length := nxt_lt hn0 hne
    (try dsimp only [thr, thn])
    cases hn1 : need [58, 61] R1 with
    | error E =>
      have hS1 := fun W (h : RdM W r T R1) => need_noC h hn1
      show Calls _ _ _ _ (fun e w' => e = panT T E ∧ Keeps (fun k => k = r) w w')
      go_enter Tryz.func50, Tryz.ntmps50
      go_wp2_with (first | (go_at_call 52; refine (hNm _).mono ?_; rintro e w' ⟨rfl, rfl⟩) | (go_at_call 72; refine (hS0 _ (hA _)).mono ?_; rintro e w1 ⟨rfl, h1, k1⟩; have Z1 := k1.size; simp only [World.size_alloc] at Z1; have K1 : Keeps (fun k => k = r) w w1 := ((Keeps.refl _ w).alloc _).trans k1; have M1 := m0.keep (by show 0 < 12; decide) k1 nb; clear hS0) | (go_at_call 51; refine (hS1 _ h1).mono ?_; rintro e w2 ⟨rfl, k2⟩; have K2 : Keeps (fun k => k = r) w w2 := K1.trans k2))
      exact ⟨rfl, rfl, K2⟩
    | ok R2 =>
      have hS1 := fun W (h : RdM W r T R1) => need_okC h hn1
      have hl1 : R2.length < R1.length := need_lt hn1 (by decide)
      (try dsimp only [thr, thn])
      have hS2 := fun W (h : RdM W r T R2) => (ce_all FU).ex W r T R2 1 h (by have := h.rl; unfold FU; omega) (by decide) (by decide)
      rw [show ((1 : Nat) : Int) = 1 from rfl] at hS2
      cases hn2 : ex FU 1 R2 with
      | error E =>
        rw [hn2] at hS2
        show Calls _ _ _ _ (fun e w' => e = panT T E ∧ Keeps (fun k => k = r) w w')
        go_enter Tryz.func50, Tryz.ntmps50
        go_wp2_with (first | (go_at_call 52; refine (hNm _).mono ?_; rintro e w' ⟨rfl, rfl⟩) | (go_at_call 72; refine (hS0 _ (hA _)).mono ?_; rintro e w1 ⟨rfl, h1, k1⟩; have Z1 := k1.size; simp only [World.size_alloc] at Z1; have K1 : Keeps (fun k => k = r) w w1 := ((Keeps.refl _ w).alloc _).trans k1; have M1 := m0.keep (by show 0 < 12; decide) k1 nb; clear hS0) | (go_at_call 51; refine (hS1 _ h1).mono ?_; rintro e w2 ⟨rfl, h2, k2⟩; have Z2 := k2.size; have K2 : Keeps (fun k => k = r) w w2 := K1.trans k2; have M2 := M1.keep (by show 0 < 12; decide) k2 nb; clear hS1) | (go_at_call 48; refine (hS2 _ h2).mono ?_; rintro e w3 ⟨rfl, k3⟩; have K3 : Keeps (fun k => k = r) w w3 := K2.trans k3))
        exact ⟨rfl, rfl, K3⟩
      | ok z2 =>
        obtain ⟨t2, R3⟩ := z2
        rw [hn2] at hS2
        have hl2 : R3.length < R2.length := (rd_lt FU).1 _ _ _ _ (Nat.le_refl _) hn2
        (try dsimp only [thr, thn])
        show Calls _ _ _ _ (fun e w' => ∃ L : List Value, One L ∧ L.length = 12 ∧ e = .returned (.agg L.toArray) ∧ SC w' (fun g => w.heap.size ≤ g) 35 37 (.mk 1 (tok R) t2 tr0 [] []) L ∧ RdM w' r T R3 ∧ Keeps (fun k => k = r) w w')
        go_enter Tryz.func50, Tryz.ntmps50
        go_wp2_with (first | (go_at_call 52; refine (hNm _).mono ?_; rintro e w' ⟨rfl, rfl⟩) | (go_at_call 72; refine (hS0 _ (hA _)).mono ?_; rintro e w1 ⟨rfl, h1, k1⟩; have Z1 := k1.size; simp only [World.size_alloc] at Z1; have K1 : Keeps (fun k => k = r) w w1 := ((Keeps.refl _ w).alloc _).trans k1; have M1 := m0.keep (by show 0 < 12; decide) k1 nb; clear hS0) | (go_at_call 51; refine (hS1 _ h1).mono ?_; rintro e w2 ⟨rfl, h2, k2⟩; have Z2 := k2.size; have K2 : Keeps (fun k => k = r) w w2 := K1.trans k2; have M2 := M1.keep (by show 0 < 12; decide) k2 nb; clear hS1) | (go_at_call 48; refine (hS2 _ h2).mono ?_; rintro e w3 ⟨k102, n102, s102, p102, m102, c102, rfl, u2, h3, kk3⟩; have k3 := kk3; have Z3 := k3.size; have K3 : Keeps (fun k => k = r) w w3 := K2.trans k3; have M3 := M2.keep (by show 0 < 12; decide) k3 nb; have T102 : TC w3 (fun g => w.heap.size < g) 35 t2 [.int .i64 k102, .int .i64 n102, .string s102, .slice p102 m102 c102] := u2.mono (fun g hg => (by omega)); clear hS2) | (refine wpList_store_cl rfl 37 _ _ rfl w.heap.size 0 12 _ rfl rfl rfl M3 (by show 12 ≤ 12; decide) iSt one12 ?_; intro w9 hc9 k9 zz9; clear zz9))
        have hc6 : CL w9 w.heap.size [.int .i64 1, .string (bs (tok R)), .int .i64 k102, .int .i64 n102, .string s102, .slice p102 m102 c102, .int .i64 0, .int .i64 0, .string { data := #[] }, .slice none 0 0, .slice none 0 0, .slice none 0 0] := hc9
        have hrn := run_st hc6 rfl
        refine bodyPost_ret (v := .agg [.int .i64 1, .string (bs (tok R)), .int .i64 k102, .int .i64 n102, .string s102, .slice p102 m102 c102, .int .i64 0, .int .i64 0, .string { data := #[] }, .slice none 0 0, .slice none 0 0, .slice none 0 0].toArray) (by rw [results_cell1 rfl]; simp [asAddr, hrn]) rfl ?_
        exact ⟨_, one12, rfl, rfl, (SC.flat (P := fun g => w.heap.size < g) (by unfold I64; omega) hTok (T102.stay (k9.stay (fun i hi _ e => by omega))) (tr0_cells w9 _ _)).mono (fun g hg => by omega), h3.keep k9 (fun i hi e => by have := h3.low; omega) (fun e => by omega), K3.trans' k9 (fun _ _ e => e) (fun i hi e => by omega)⟩
set_option maxHeartbeats 1000000 in
set_option maxRecDepth 100000 in
theorem smp_x {w : World} {r : Nat} {T R : Bs} (h : RdM w r T R) (g1 : tok R ≠ [91]) (g2 : tok R ≠ kRel) (g3 : tok R ≠ kAbort) (g4 : tok R ≠ kRet) (ht : isNm (tok R) = false) : Calls Tryz.prog 50 #[pR r] w (RetS (smp R) w r T) := by
  have hr := h.lt
  have hr12 : ∀ i, i < 12 → ¬ i = r := fun i hi e => by have := h.low; omega
  have nb : ¬ w.heap.size = r := by omega
  have y2 : ∀ ob, (w.alloc ob).cell? ⟨r, 2, none⟩ = some (.string (bs (tok R))) := fun ob => ((Keeps.refl (fun _ => False) w).alloc ob).cell (h.c.c 2 _ rfl) (fun e => e)
  have hA := fun ob => h.keep ((Keeps.refl (fun _ => False) w).alloc ob) (fun _ _ e => e) (fun e => e)
  have m0 := CL.made w zS 37
  have hTok := tok_rl h
  have hNm := fun ob => name_any (tok R) hTok (hA ob).g
  unfold smp
  rw [if_neg g1, if_neg g2, if_neg g3, if_neg g4, if_neg (by rw [ht]; decide)]
  rw [ht] at hNm
  clear ht
  have e1 : ((bs (tok R)).toList == [91]) = false := by rw [bs_toList]; exact beq_eq_false_iff_ne.2 g1
  have e2 : ((bs (tok R)).toList == [114, 101, 108, 101, 97, 115, 101]) = false := by rw [bs_toList]; exact beq_eq_false_iff_ne.2 g2
  have e3 : ((bs (tok R)).toList == [97, 98, 111, 114, 116]) = false := by rw [bs_toList]; exact beq_eq_false_iff_ne.2 g3
  have e4 : ((bs (tok R)).toList == [114, 101, 116, 117, 114, 110]) = false := by rw [bs_toList]; exact beq_eq_false_iff_ne.2 g4
  have hL := fun ob => leave_any (hA ob)
  show Calls _ _ _ _ (fun e w' => e = panT T R ∧ Keeps (fun k => k = r) w w')
  go_enter Tryz.func50, Tryz.ntmps50
  go_wp2_with (first | (go_at_call 52; refine (hNm _).mono ?_; rintro e w' ⟨rfl, rfl⟩) | (go_at_call 46; refine (hL _).mono ?_; rintro e w1 ⟨rfl, k1⟩))
  exact ⟨rfl, rfl, ((Keeps.refl _ w).alloc _).trans (k1.mono (fun _ _ e => e.elim))⟩
theorem wp_call1c (f : Nat) {o : Oper} {a : Act} {w : World} {K : Act → World → Prop} {Q : Exit → Act → World → Prop} (x : Tmp) {t1 t2 : TypeId} {v2 : Value} (ho : o.op = .call { callee := .value (.func f), args := #[.tmp x, .const v2], argTypes := #[t1, t2] }) (v1 : Value) (hx : a.tmps[x]?.getD undef = v1) (hcf : ∀ args w, (callFunc f args).run Tryz.prog w = .ok (.enter f args) w) (h : Calls Tryz.prog f #[v1, v2] w (fun e w' => ∃ v, e = .returned v ∧ K (a.put o.dst v) w')) : o.wp Tryz.prog a w K Q := by
  unfold Oper.wp execOp
  simp only [ho]
  go_simp
  refine h.mono ?_
  rintro e w' ⟨v, rfl, h⟩
  exact h
theorem wp_call1cP (f : Nat) {o : Oper} {a : Act} {w : World} {K : Act → World → Prop} {Q : Exit → Act → World → Prop} (x : Tmp) {t1 t2 : TypeId} {v2 : Value} (ho : o.op = .call { callee := .value (.func f), args := #[.tmp x, .const v2], argTypes := #[t1, t2] }) (v1 : Value) (hx : a.tmps[x]?.getD undef = v1) (hcf : ∀ args w, (callFunc f args).run Tryz.prog w = .ok (.enter f args) w) (h : Calls Tryz.prog f #[v1, v2] w (fun e w' => ∃ c, e = .panicked c ∧ Q (.panic c) a w')) : o.wp Tryz.prog a w K Q := by
  unfold Oper.wp execOp
  simp only [ho]
  go_simp
  refine h.mono ?_
  rintro e w' ⟨v, rfl, h⟩
  exact h
set_option maxHeartbeats 1000000 in
set_option maxRecDepth 100000 in
theorem smp_b {w : World} {r : Nat} {T R : Bs} (h : RdM w r T R) (ht : tok R = [91]) : Calls Tryz.prog 50 #[pR r] w (RetS (smp R) w r T) := by
  have hr := h.lt
  have hr12 : ∀ i, i < 12 → ¬ i = r := fun i hi e => by have := h.low; omega
  have nb : ¬ w.heap.size = r := by omega
  have y2 : ∀ ob, (w.alloc ob).cell? ⟨r, 2, none⟩ = some (.string (bs (tok R))) := fun ob => ((Keeps.refl (fun _ => False) w).alloc ob).cell (h.c.c 2 _ rfl) (fun e => e)
  have hA := fun ob => h.keep ((Keeps.refl (fun _ => False) w).alloc ob) (fun _ _ e => e) (fun e => e)
  have m0 := CL.made w zS 37
  unfold smp
  rw [if_pos ht]
  have e1 : ((bs (tok R)).toList == [91]) = true := by rw [bs_toList, ht]; rfl
  have e2 : ((bs (tok R)).toList == [114, 101, 108, 101, 97, 115, 101]) = false := by rw [bs_toList, ht]; rfl
  have e3 : ((bs (tok R)).toList == [97, 98, 111, 114, 116]) = false := by rw [bs_toList, ht]; rfl
  have e4 : ((bs (tok R)).toList == [114, 101, 116, 117, 114, 110]) = false := by rw [bs_toList, ht]; rfl
  generalize bs (tok R) = K at *
  have hS0 := fun W (h : RdM W r T R) => (ce_all FU).obj W r T R h (by have := h.rl; unfold FU; omega)
  cases hn0 : obj FU R with
  | error E =>
    rw [hn0] at hS0
    show Calls _ _ _ _ (fun e w' => e = panT T E ∧ Keeps (fun k => k = r) w w')
    go_enter Tryz.func50, Tryz.ntmps50
    go_wp2_with (go_at_call 73; refine (hS0 _ (hA _)).mono ?_; rintro e w1 ⟨rfl, k1⟩; have K1 : Keeps (fun k => k = r) w w1 := ((Keeps.refl _ w).alloc _).trans k1)
    exact ⟨rfl, rfl, K1⟩
  | ok z0 =>
    obtain ⟨t0, R1⟩ := z0
    rw [hn0] at hS0
    have hl0 : R1.length < R.length := (rd_lt FU).2.2.2.2.1 _ _ _ hn0
    (try dsimp only [thr, thn])
    cases hn2 : need [58, 61] R1 with
    | error E =>
      have hS2 := fun W (h : RdM W r T R1) => need_noC h hn2
      show Calls _ _ _ _ (fun e w' => e = panT T E ∧ Keeps (fun k => k = r) w w')
      go_enter Tryz.func50, Tryz.ntmps50
      go_wp2_with (first | (go_at_call 73; refine (hS0 _ (hA _)).mono ?_; rintro e w1 ⟨k100, n100, s100, p100, m100, c100, rfl, u0, h1, kk1⟩; have k1 := kk1; have Z1 := k1.size; simp only [World.size_alloc] at Z1; have K1 : Keeps (fun k => k = r) w w1 := ((Keeps.refl _ w).alloc _).trans k1; have M1 := m0.keep (by show 0 < 12; decide) k1 nb; have T100 : TC w1 (fun g => w.heap.size < g) 35 t0 [.int .i64 k100, .int .i64 n100, .string s100, .slice p100 m100 c100] := u0.mono (fun g hg => (by simp only [World.size_alloc] at hg; omega)); clear hS0) | (refine wpList_store_cl rfl 35 _ _ rfl w1.heap.size 0 4 _ rfl rfl rfl (CL.made w1 zE 35) (by show 4 ≤ 4; decide) iEx one4 ?_; intro w2 hb2 k2 zz2; clear zz2; have Z2 := k2.size; simp only [World.size_alloc] at Z2; have K2 : Keeps (fun k => k = r) w w2 := (K1.alloc _).trans' k2 (fun _ _ e => e) (fun i hi e => (by omega)); have M2 := (M1.alloc (by show 0 < 12; decide) _).keep (by show 0 < 12; decide) k2 (fun e => (by omega)); have h2 := (h1.keep ((Keeps.refl (fun _ => False) w1).alloc _) (fun _ _ e => e) (fun e => e)).keep k2 (fun i hi e => (by have := h1.low; omega)) (fun e => (by omega)); have T100 := ((T100.lt.stay (alloc_stay _ _)).stay (k2.stay (fun i hi _ e => (by have := hi.2; omega)))).mono (fun g hg => hg.1)) | (go_at_call 51; refine (hS2 _ h2).mono ?_; rintro e w3 ⟨rfl, k3⟩; have K3 : Keeps (fun k => k = r) w w3 := K2.trans k3))
      exact ⟨rfl, rfl, K3⟩
    | ok R3 =>
      have hS2 := fun W (h : RdM W r T R1) => need_okC h hn2
      have hl2 : R3.length < R1.length := need_lt hn2 (by decide)
      (try dsimp only [thr, thn])
      have hX := fun W (h : RdM W r T R3) => (ce_all FU).ex W r T R3 1 h (by have := h.rl; unfold FU; omega) (by decide) (by decide)
      rw [show ((1 : Nat) : Int) = 1 from rfl] at hX
      cases hx : ex FU 1 R3 with
      | error E =>
        rw [hx] at hX
        show Calls _ _ _ _ (fun e w' => e = panT T E ∧ Keeps (fun k => k = r) w w')
        go_enter Tryz.func50, Tryz.ntmps50
        go_wp2_with (first | (go_at_call 73; refine (hS0 _ (hA _)).mono ?_; rintro e w1 ⟨k100, n100, s100, p100, m100, c100, rfl, u0, h1, kk1⟩; have k1 := kk1; have Z1 := k1.size; simp only [World.size_alloc] at Z1; have K1 : Keeps (fun k => k = r) w w1 := ((Keeps.refl _ w).alloc _).trans k1; have M1 := m0.keep (by show 0 < 12; decide) k1 nb; have T100 : TC w1 (fun g => w.heap.size < g) 35 t0 [.int .i64 k100, .int .i64 n100, .string s100, .slice p100 m100 c100] := u0.mono (fun g hg => (by simp only [World.size_alloc] at hg; omega)); clear hS0) | (refine wpList_store_cl rfl 35 _ _ rfl w1.heap.size 0 4 _ rfl rfl rfl (CL.made w1 zE 35) (by show 4 ≤ 4; decide) iEx one4 ?_; intro w2 hb2 k2 zz2; clear zz2; have Z2 := k2.size; simp only [World.size_alloc] at Z2; have K2 : Keeps (fun k => k = r) w w2 := (K1.alloc _).trans' k2 (fun _ _ e => e) (fun i hi e => (by omega)); have M2 := (M1.alloc (by show 0 < 12; decide) _).keep (by show 0 < 12; decide) k2 (fun e => (by omega)); have h2 := (h1.keep ((Keeps.refl (fun _ => False) w1).alloc _) (fun _ _ e => e) (fun e => e)).keep k2 (fun i hi e => (by have := h1.low; omega)) (fun e => (by omega)); have T100 := ((T100.lt.stay (alloc_stay _ _)).stay (k2.stay (fun i hi _ e => (by have := hi.2; omega)))).mono (fun g hg => hg.1)) | (go_at_call 51; refine (hS2 _ h2).mono ?_; rintro e w3 ⟨rfl, h3, k3⟩; have Z3 := k3.size; have K3 : Keeps (fun k => k = r) w w3 := K2.trans k3; have M3 := M2.keep (by show 0 < 12; decide) k3 nb; have T100 := T100.stay (k3.stay (fun i hi _ e => (by omega))); have hb2 := hb2.keep (by show 0 < 4; decide) k3 (fun e => (by omega)); clear hS2))
        have kd : Keeps (fun k => k = r) w3 w3.drew := (Keeps.refl _ w3).drew
        have hXd := hX w3.drew (h3.keep ((Keeps.refl (fun _ => False) w3).drew) (fun _ _ e => e) (fun e => e))
        have hbd := hb2.drew
        refine wp_region_held_drew (S := fun _ => True) (by kernel_rfl) trivial (fun hHeld => ?_)
        refine wpAnyH_take (i := 1) (v := ?_) rfl (by kernel_rfl) (by kernel_rfl) (by kernel_rfl) (fun _ _ _ h => h) (Or.inl ⟨by rfl, ?_⟩) (by assumption) ?_
        rotate_left
        · intro wx hSw; clear hSw; go_simp <;> with_reducible rfl
        (try simp only [List.getElem_toArray]); (try simp only [List.getElem_cons_succ]); (try simp only [List.getElem_cons_zero]); (try simp only [Act.put]); (try simp only [List.setIfInBounds_toArray]); (repeat first | simp only [List.set_cons_succ] | simp only [List.set_cons_zero])
        refine wpAnyH_two' 0 2 (by kernel_rfl) rfl rfl (by kernel_rfl) (by kernel_rfl) ?_ ?_
        · refine wp_loadK 35 _ rfl ⟨w1.heap.size, 0, none⟩ rfl _ (run_ex hbd) ?_
          refine ⟨trivial, fun _ => ?_⟩
          (try simp only [List.getElem_toArray]); (try simp only [List.getElem_cons_succ]); (try simp only [List.getElem_cons_zero]); (try simp only [Act.put]); (try simp only [List.setIfInBounds_toArray]); (repeat first | simp only [List.set_cons_succ] | simp only [List.set_cons_zero])
          refine wpAnyH_one 2 (by kernel_rfl) rfl rfl ?_
          refine wp_call1cP 48 _ rfl _ rfl (fun _ _ => rfl) (hXd.mono ?_)
          rintro e w8 ⟨rfl, k8⟩
          exact ⟨_, rfl, rfl, rfl, K3.trans (kd.trans k8)⟩
        · refine wp_call1cP 48 _ rfl _ rfl (fun _ _ => rfl) (hXd.mono ?_)
          rintro e w8 ⟨rfl, k8⟩
          exact ⟨_, rfl, rfl, rfl, K3.trans (kd.trans k8)⟩
      | ok z4 =>
        obtain ⟨t4, R5⟩ := z4
        rw [hx] at hX
        show Calls _ _ _ _ (fun e w' => ∃ L : List Value, One L ∧ L.length = 12 ∧ e = .returned (.agg L.toArray) ∧ SC w' (fun g => w.heap.size ≤ g) 35 37 (.mk 2 [] t0 t4 [] []) L ∧ RdM w' r T R5 ∧ Keeps (fun k => k = r) w w')
        go_enter Tryz.func50, Tryz.ntmps50
        go_wp2_with (first | (go_at_call 73; refine (hS0 _ (hA _)).mono ?_; rintro e w1 ⟨k100, n100, s100, p100, m100, c100, rfl, u0, h1, kk1⟩; have k1 := kk1; have Z1 := k1.size; simp only [World.size_alloc] at Z1; have K1 : Keeps (fun k => k = r) w w1 := ((Keeps.refl _ w).alloc _).trans k1; have M1 := m0.keep (by show 0 < 12; decide) k1 nb; have T100 : TC w1 (fun g => w.heap.size < g) 35 t0 [.int .i64 k100, .int .i64 n100, .string s100, .slice p100 m100 c100] := u0.mono (fun g hg => (by simp only [World.size_alloc] at hg; omega)); clear hS0) | (refine wpList_store_cl rfl 35 _ _ rfl w1.heap.size 0 4 _ rfl rfl rfl (CL.made w1 zE 35) (by show 4 ≤ 4; decide) iEx one4 ?_; intro w2 hb2 k2 zz2; clear zz2; have Z2 := k2.size; simp only [World.size_alloc] at Z2; have K2 : Keeps (fun k => k = r) w w2 := (K1.alloc _).trans' k2 (fun _ _ e => e) (fun i hi e => (by omega)); have M2 := (M1.alloc (by show 0 < 12; decide) _).keep (by show 0 < 12; decide) k2 (fun e => (by omega)); have h2 := (h1.keep ((Keeps.refl (fun _ => False) w1).alloc _) (fun _ _ e => e) (fun e => e)).keep k2 (fun i hi e => (by have := h1.low; omega)) (fun e => (by omega)); have T100 := ((T100.lt.stay (alloc_stay _ _)).stay (k2.stay (fun i hi _ e => (by have := hi.2; omega)))).mono (fun g hg => hg.1)) | (go_at_call 51; refine (hS2 _ h2).mono ?_; rintro e w3 ⟨rfl, h3, k3⟩; have Z3 := k3.size; have K3 : Keeps (fun k => k = r) w w3 := K2.trans k3; have M3 := M2.keep (by show 0 < 12; decide) k3 nb; have T100 := T100.stay (k3.stay (fun i hi _ e => (by omega))); have hb2 := hb2.keep (by show 0 < 4; decide) k3 (fun e => (by omega)); clear hS2))
        have kd : Keeps (fun k => k = r) w3 w3.drew := (Keeps.refl _ w3).drew
        have hXd := hX w3.drew (h3.keep ((Keeps.refl (fun _ => False) w3).drew) (fun _ _ e => e) (fun e => e))
        have hbd := hb2.drew
        refine wp_region_held_drew (S := fun _ => True) (by kernel_rfl) trivial (fun hHeld => ?_)
        refine wpAnyH_take (i := 1) (v := ?_) rfl (by kernel_rfl) (by kernel_rfl) (by kernel_rfl) (fun _ _ _ h => h) (Or.inl ⟨by rfl, ?_⟩) (by assumption) ?_
        rotate_left
        · intro wx hSw; clear hSw; go_simp <;> with_reducible rfl
        (try simp only [List.getElem_toArray]); (try simp only [List.getElem_cons_succ]); (try simp only [List.getElem_cons_zero]); (try simp only [Act.put]); (try simp only [List.setIfInBounds_toArray]); (repeat first | simp only [List.set_cons_succ] | simp only [List.set_cons_zero])
        refine wpAnyH_two' 0 2 (by kernel_rfl) rfl rfl (by kernel_rfl) (by kernel_rfl) ?_ ?_
        · refine wp_loadK 35 _ rfl ⟨w1.heap.size, 0, none⟩ rfl _ (run_ex hbd) ?_
          refine ⟨trivial, fun _ => ?_⟩
          (try simp only [List.getElem_toArray]); (try simp only [List.getElem_cons_succ]); (try simp only [List.getElem_cons_zero]); (try simp only [Act.put]); (try simp only [List.setIfInBounds_toArray]); (repeat first | simp only [List.set_cons_succ] | simp only [List.set_cons_zero])
          refine wpAnyH_one 2 (by kernel_rfl) rfl rfl ?_
          refine wp_call1c 48 _ rfl _ rfl (fun _ _ => rfl) (hXd.mono ?_)
          rintro e w8 ⟨k2, n2, q2, p2, m2, c2, rfl, u2, h8, k8⟩
          have z8 := k8.size
          have zd := kd.size
          have T8 := (T100.stay (kd.stay (fun i hi _ e => (by omega)))).stay (k8.stay (fun i hi _ e => (by omega)))
          have b8 := hbd.keep (by show 0 < 4; decide) k8 (fun e => (by omega))
          have M8 := (M3.drew).keep (by show 0 < 12; decide) k8 nb
          have U2 : TC w8 (fun g => w.heap.size < g) 35 t4 _ := u2.mono (fun g hg => (by omega))
          refine ⟨_, rfl, trivial, fun _ => ?_⟩
          (try simp only [List.getElem_toArray]); (try simp only [List.getElem_cons_succ]); (try simp only [List.getElem_cons_zero]); (try simp only [Act.put]); (try simp only [List.setIfInBounds_toArray]); (repeat first | simp only [List.set_cons_succ] | simp only [List.set_cons_zero])
          refine wpAnyH_take (i := 3) (v := ?_) rfl (by kernel_rfl) (by kernel_rfl) (by kernel_rfl) (fun _ _ _ h => h) (Or.inl ⟨by rfl, ?_⟩) (by assumption) ?_
          rotate_left
          · intro wx hSw; clear hSw; go_simp <;> with_reducible rfl
          (try simp only [List.getElem_toArray]); (try simp only [List.getElem_cons_succ]); (try simp only [List.getElem_cons_zero]); (try simp only [Act.put]); (try simp only [List.setIfInBounds_toArray]); (repeat first | simp only [List.set_cons_succ] | simp only [List.set_cons_zero])
          obtain ⟨X, hX9⟩ : ∃ X, X = w8.setCells w.heap.size 0 [.int .i64 2, .string (bs []), .int .i64 k100, .int .i64 n100, .string s100, .slice p100 m100 c100, .int .i64 k2, .int .i64 n2, .string q2, .slice p2 m2 c2, .slice none 0 0, .slice none 0 0] := ⟨_, rfl⟩
          have k9 : Keeps (fun i => i = w.heap.size) w8 X := by rw [hX9]; exact (Keeps.refl (fun i => i = w.heap.size) _).setsA _ _
          have hc6 : CL X w.heap.size [.int .i64 2, .string (bs []), .int .i64 k100, .int .i64 n100, .string s100, .slice p100 m100 c100, .int .i64 k2, .int .i64 n2, .string q2, .slice p2 m2 c2, .slice none 0 0, .slice none 0 0] := by rw [hX9]; exact M8.sets (o := 0) (by show 0 + 12 ≤ 12; decide)
          refine wpAnyH_store 4 (by kernel_rfl) rfl rfl 37 _ _ rfl w.heap.size 0 12 #[.int .i64 2, .string (bs []), .int .i64 k100, .int .i64 n100, .string s100, .slice p100 m100 c100, .int .i64 k2, .int .i64 n2, .string q2, .slice p2 m2 c2, .slice none 0 0, .slice none 0 0] rfl rfl rfl (M8.there (by show 0 + 12 ≤ 12; decide)) iSt one12 trivial (fun _ => ?_)
          (try simp only [List.getElem_toArray]); (try simp only [List.getElem_cons_succ]); (try simp only [List.getElem_cons_zero]); (try simp only [Act.put]); (try simp only [List.setIfInBounds_toArray]); (repeat first | simp only [List.set_cons_succ] | simp only [List.set_cons_zero])
          refine wpAnyH_done (by kernel_rfl) ?_ _
          have hx10 : w8.setCells w.heap.size 0 (#[.int .i64 2, .string (bs []), .int .i64 k100, .int .i64 n100, .string s100, .slice p100 m100 c100, .int .i64 k2, .int .i64 n2, .string q2, .slice p2 m2 c2, .slice none 0 0, .slice none 0 0] : Array Value).toList = X := hX9.symm
          rw [hx10]
          clear hx10 hX9
          have hrn := run_st hc6 rfl
          have z9 := k9.size
          go_wp2_with fail
          refine bodyPost_ret (v := .agg [.int .i64 2, .string (bs []), .int .i64 k100, .int .i64 n100, .string s100, .slice p100 m100 c100, .int .i64 k2, .int .i64 n2, .string q2, .slice p2 m2 c2, .slice none 0 0, .slice none 0 0].toArray) (by rw [results_cell1 rfl]; simp [asAddr, hrn]) rfl ?_
          exact ⟨_, one12, rfl, rfl, (SC.flat (P := fun g => w.heap.size < g) (by unfold I64; omega) (by decide) (T8.stay (k9.stay (fun i hi _ e => by omega))) (U2.stay (k9.stay (fun i hi _ e => by omega)))).mono (fun g hg => by omega), h8.keep k9 (fun i hi e => by have := h8.low; omega) (fun e => by omega), (K3.trans (kd.trans k8)).trans' k9 (fun _ _ e => e) (fun i hi e => by omega)⟩
        · refine wp_call1c 48 _ rfl _ rfl (fun _ _ => rfl) (hXd.mono ?_)
          rintro e w8 ⟨k2, n2, q2, p2, m2, c2, rfl, u2, h8, k8⟩
          have z8 := k8.size
          have zd := kd.size
          have T8 := (T100.stay (kd.stay (fun i hi _ e => (by omega)))).stay (k8.stay (fun i hi _ e => (by omega)))
          have b8 := hbd.keep (by show 0 < 4; decide) k8 (fun e => (by omega))
          have M8 := (M3.drew).keep (by show 0 < 12; decide) k8 nb
          have U2 : TC w8 (fun g => w.heap.size < g) 35 t4 _ := u2.mono (fun g hg => (by omega))
          refine ⟨_, rfl, trivial, fun _ => ?_⟩
          (try simp only [List.getElem_toArray]); (try simp only [List.getElem_cons_succ]); (try simp only [List.getElem_cons_zero]); (try simp only [Act.put]); (try simp only [List.setIfInBounds_toArray]); (repeat first | simp only [List.set_cons_succ] | simp only [List.set_cons_zero])
          refine wpAnyH_one 0 (by kernel_rfl) rfl rfl ?_
          refine wp_loadK 35 _ rfl ⟨w1.heap.size, 0, none⟩ rfl _ (run_ex b8) ?_
          refine ⟨trivial, fun _ => ?_⟩
          (try simp only [List.getElem_toArray]); (try simp only [List.getElem_cons_succ]); (try simp only [List.getElem_cons_zero]); (try simp only [Act.put]); (try simp only [List.setIfInBounds_toArray]); (repeat first | simp only [List.set_cons_succ] | simp only [List.set_cons_zero])
          refine wpAnyH_take (i := 3) (v := ?_) rfl (by kernel_rfl) (by kernel_rfl) (by kernel_rfl) (fun _ _ _ h => h) (Or.inl ⟨by rfl, ?_⟩) (by assumption) ?_
          rotate_left
          · intro wx hSw; clear hSw; go_simp <;> with_reducible rfl
          (try simp only [List.getElem_toArray]); (try simp only [List.getElem_cons_succ]); (try simp only [List.getElem_cons_zero]); (try simp only [Act.put]); (try simp only [List.setIfInBounds_toArray]); (repeat first | simp only [List.set_cons_succ] | simp only [List.set_cons_zero])
          obtain ⟨X, hX9⟩ : ∃ X, X = w8.setCells w.heap.size 0 [.int .i64 2, .string (bs []), .int .i64 k100, .int .i64 n100, .string s100, .slice p100 m100 c100, .int .i64 k2, .int .i64 n2, .string q2, .slice p2 m2 c2, .slice none 0 0, .slice none 0 0] := ⟨_, rfl⟩
          have k9 : Keeps (fun i => i = w.heap.size) w8 X := by rw [hX9]; exact (Keeps.refl (fun i => i = w.heap.size) _).setsA _ _
          have hc6 : CL X w.heap.size [.int .i64 2, .string (bs []), .int .i64 k100, .int .i64 n100, .string s100, .slice p100 m100 c100, .int .i64 k2, .int .i64 n2, .string q2, .slice p2 m2 c2, .slice none 0 0, .slice none 0 0] := by rw [hX9]; exact M8.sets (o := 0) (by show 0 + 12 ≤ 12; decide)
          refine wpAnyH_store 4 (by kernel_rfl) rfl rfl 37 _ _ rfl w.heap.size 0 12 #[.int .i64 2, .string (bs []), .int .i64 k100, .int .i64 n100, .string s100, .slice p100 m100 c100, .int .i64 k2, .int .i64 n2, .string q2, .slice p2 m2 c2, .slice none 0 0, .slice none 0 0] rfl rfl rfl (M8.there (by show 0 + 12 ≤ 12; decide)) iSt one12 trivial (fun _ => ?_)
          (try simp only [List.getElem_toArray]); (try simp only [List.getElem_cons_succ]); (try simp only [List.getElem_cons_zero]); (try simp only [Act.put]); (try simp only [List.setIfInBounds_toArray]); (repeat first | simp only [List.set_cons_succ] | simp only [List.set_cons_zero])
          refine wpAnyH_done (by kernel_rfl) ?_ _
          have hx10 : w8.setCells w.heap.size 0 (#[.int .i64 2, .string (bs []), .int .i64 k100, .int .i64 n100, .string s100, .slice p100 m100 c100, .int .i64 k2, .int .i64 n2, .string q2, .slice p2 m2 c2, .slice none 0 0, .slice none 0 0] : Array Value).toList = X := hX9.symm
          rw [hx10]
          clear hx10 hX9
          have hrn := run_st hc6 rfl
          have z9 := k9.size
          go_wp2_with fail
          refine bodyPost_ret (v := .agg [.int .i64 2, .string (bs []), .int .i64 k100, .int .i64 n100, .string s100, .slice p100 m100 c100, .int .i64 k2, .int .i64 n2, .string q2, .slice p2 m2 c2, .slice none 0 0, .slice none 0 0].toArray) (by rw [results_cell1 rfl]; simp [asAddr, hrn]) rfl ?_
          exact ⟨_, one12, rfl, rfl, (SC.flat (P := fun g => w.heap.size < g) (by unfold I64; omega) (by decide) (T8.stay (k9.stay (fun i hi _ e => by omega))) (U2.stay (k9.stay (fun i hi _ e => by omega)))).mono (fun g hg => by omega), h8.keep k9 (fun i hi e => by have := h8.low; omega) (fun e => by omega), (K3.trans (kd.trans k8)).trans' k9 (fun _ _ e => e) (fun i hi e => by omega)⟩
theorem smp_any {w : World} {r : Nat} {T R : Bs} (h : RdM w r T R) : Calls Tryz.prog 50 #[pR r] w (RetS (smp R) w r T) := by
  by_cases g1 : tok R = [91]
  · exact smp_b h g1
  by_cases g2 : tok R = kRel
  · exact smp_r h g2
  by_cases g3 : tok R = kAbort
  · exact smp_a h g3
  by_cases g4 : tok R = kRet
  · exact smp_t h g4
  cases hn : isNm (tok R)
  · exact smp_x h g1 g2 g3 g4 hn
  · exact smp_n h g1 g2 g3 g4 hn
end Go.Proofs.YtehblpbefkopbaaGreatDoor
