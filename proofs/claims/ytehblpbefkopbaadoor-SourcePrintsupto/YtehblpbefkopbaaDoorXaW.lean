import Derived.Test.YtehblpbefkopbaaDoorXaV
namespace Go.Proofs.YtehblpbefkopbaaDoor
open Go.RowKit Go.ChangeShapes Go.WideShapes Go.ChangeAt Go.Deep
attribute [local go_sem] Oper.semAt_some run_store_nf run_store_f
/-- A statement's cells somewhere in a block. -/
structure S12 (W : World) (b o : Nat) (k : Int) (wd : Bs) (ka na : Int) (wa : Bs) (pa : Option Addr) (ma ca : Nat) (kb nb : Int) (wb : Bs) (pb : Option Addr) (mb cb : Nat) (pt : Option Addr) (mt ct : Nat) (pe : Option Addr) (me ce : Nat) : Prop where
  y0 : W.cell? ⟨b, o, none⟩ = some (.int .i64 k)
  y1 : W.cell? ⟨b, o + 1, none⟩ = some (.string (bs wd))
  ea : E4 W b (o + 2) ka na wa pa ma ca
  eb : E4 W b (o + 6) kb nb wb pb mb cb
  yt : W.cell? ⟨b, o + 10, none⟩ = some (.slice pt mt ct)
  ye : W.cell? ⟨b, o + 11, none⟩ = some (.slice pe me ce)
theorem E4.keep {S : Nat → Prop} {W W' : World} {b o : Nat} {k n : Int} {wd : Bs} {p : Option Addr} {m c : Nat} (h : E4 W b o k n wd p m c) (q : Keeps S W W') (hb : ¬ S b) : E4 W' b o k n wd p m c :=
  ⟨q.cell h.y0 hb, q.cell h.y1 hb, q.cell h.y2 hb, q.cell h.y3 hb⟩
abbrev zF : List Value := [.bool false, .bool false, .bool false, .bool false, .bool false]
theorem iFd : (Tryd.prog.info? 105).map (·.size) = some 5 := by kernel_rfl
theorem one5 {a b c d e : Bool} : ([.bool a, .bool b, .bool c, .bool d, .bool e] : List Value).toArray.all (·.oneCell') = true := all_oneCell_toArray (by simp [Value.oneCell'])
/-- Can such a statement be, in the words of its cells? -/
def okC (k : Int) (wd : Bs) (zA zB : Bool) (mt me : Nat) : Bool := decide (1 ≤ k) && decide (k ≤ 7) && (if usW k then isNm wd else wd.isEmpty) && (usA k || zA) && (usB k || zB) && (usT k || decide (mt = 0)) && (usE k || decide (me = 0))
def zrC (k n : Int) (wd : Bs) (m : Nat) : Bool := decide (k = 0) && decide (n = 0) && wd.isEmpty && decide (m = 0)
set_option maxHeartbeats 4000000 in
set_option maxRecDepth 100000 in
theorem cbs_1 {w : World} {b o : Nat} {wd : Bs} {ka na : Int} {wa : Bs} {pa : Option Addr} {ma ca : Nat} {kb nb : Int} {wb : Bs} {pb : Option Addr} {mb cb : Nat} {pt : Option Addr} {mt ct : Nat} {pe : Option Addr} {me ce : Nat} (h : S12 w b o 1 wd ka na wa pa ma ca kb nb wb pb mb cb pt mt ct pe me ce) (hw : wd.length ≤ 140737488355328) (hG : SG w) : Calls Tryd.prog 52 #[pA b o] w fun e w' => e = .returned (.bool (okC 1 wd (zrC ka na wa ma) (zrC kb nb wb mb) mt me)) ∧ Keeps (fun _ => False) w w' := by
  have y0 := h.y0
  have u0 : w.cell? ⟨0, 5, none⟩ = some (.bool true) := hG.us 5 _ rfl
  have u1 : w.cell? ⟨0, 6, none⟩ = some (.bool true) := hG.us 6 _ rfl
  have u2 : w.cell? ⟨0, 7, none⟩ = some (.bool false) := hG.us 7 _ rfl
  have u3 : w.cell? ⟨0, 8, none⟩ = some (.bool false) := hG.us 8 _ rfl
  have u4 : w.cell? ⟨0, 9, none⟩ = some (.bool false) := hG.us 9 _ rfl
  have hk : okC 1 wd (zrC ka na wa ma) (zrC kb nb wb mb) mt me = (isNm wd && zrC kb nb wb mb && decide (mt = 0) && decide (me = 0)) := by simp [okC, usW, usA, usB, usT, usE]
  rw [hk]
  clear hk
  have hNm := fun W (k : Keeps (fun _ => False) w W) => name_any wd hw (hG.keep k (fun _ _ e => e))
  have hZb : ∀ W, Keeps (fun _ => False) w W → Calls Tryd.prog 60 #[pA b (o + 6)] W fun e w' => e = .returned (.bool (zrC kb nb wb mb)) ∧ w' = W := fun W k => isz_any (h.eb.keep k (fun e => e))
  have fT3 : ((mt : Int) == 0) = decide (mt = 0) := by rw [beq_int]; exact dec_cast mt 0
  have fT4 : (mt == 0) = decide (mt = 0) := beq_nat _ _
  have fT5 : decide ((mt : Int) = 0) = decide (mt = 0) := dec_cast mt 0
  have fE3 : ((me : Int) == 0) = decide (me = 0) := by rw [beq_int]; exact dec_cast me 0
  have fE4 : (me == 0) = decide (me = 0) := beq_nat _ _
  have fE5 : decide ((me : Int) = 0) = decide (me = 0) := dec_cast me 0
  generalize isNm wd = bw at *
  generalize zrC kb nb wb mb = bB at *
  generalize decide (mt = 0) = bT at *
  generalize decide (me = 0) = bE at *
  have HST : Hid True := trivial
  have y1 := h.y1
  have y10 := h.yt
  have y11 := h.ye
  generalize bs wd = W0 at *
  cases bw
  · (try simp only [Bool.false_and])
    go_enter Tryd.func52, Tryd.ntmps52
    go_wp2_with (first | (have HS0 := HST; clear HST HS0; refine wpList_store_cl rfl 105 _ _ rfl w.heap.size 0 5 _ rfl rfl rfl (CL.made w zF 105) (by show 5 ≤ 5; decide) iFd one5 ?_; intro w2 c2 k2 z2; clear z2; have kk : Keeps (fun _ => False) w w2 := ((Keeps.refl _ w).alloc _).trans' k2 (fun _ _ e => e) (fun i hi e => (by omega)); have y0 := kk.cell y0 (fun e => e); have y1 := kk.cell y1 (fun e => e); have y10 := kk.cell y10 (fun e => e); have y11 := kk.cell y11 (fun e => e); have c2 : CL w2 w.heap.size [.bool true, .bool true, .bool false, .bool false, .bool false] := c2; have x0 := c2.c 0 _ rfl; have x1 := c2.c 1 _ rfl; have x2 := c2.c 2 _ rfl; have x3 := c2.c 3 _ rfl; have x4 := c2.c 4 _ rfl) | (go_at_call 59; refine (hNm _ kk).mono ?_; rintro e w' ⟨rfl, rfl⟩) | (go_at_call 60; with_reducible (refine (hZb _ kk).mono ?_); rintro e w' ⟨rfl, rfl⟩; clear hZb))
    go_ret
    exact ⟨rfl, kk⟩
  · cases bB
    · (try simp only [Bool.false_and])
      go_enter Tryd.func52, Tryd.ntmps52
      go_wp2_with (first | (have HS0 := HST; clear HST HS0; refine wpList_store_cl rfl 105 _ _ rfl w.heap.size 0 5 _ rfl rfl rfl (CL.made w zF 105) (by show 5 ≤ 5; decide) iFd one5 ?_; intro w2 c2 k2 z2; clear z2; have kk : Keeps (fun _ => False) w w2 := ((Keeps.refl _ w).alloc _).trans' k2 (fun _ _ e => e) (fun i hi e => (by omega)); have y0 := kk.cell y0 (fun e => e); have y1 := kk.cell y1 (fun e => e); have y10 := kk.cell y10 (fun e => e); have y11 := kk.cell y11 (fun e => e); have c2 : CL w2 w.heap.size [.bool true, .bool true, .bool false, .bool false, .bool false] := c2; have x0 := c2.c 0 _ rfl; have x1 := c2.c 1 _ rfl; have x2 := c2.c 2 _ rfl; have x3 := c2.c 3 _ rfl; have x4 := c2.c 4 _ rfl) | (go_at_call 59; refine (hNm _ kk).mono ?_; rintro e w' ⟨rfl, rfl⟩) | (go_at_call 60; with_reducible (refine (hZb _ kk).mono ?_); rintro e w' ⟨rfl, rfl⟩; clear hZb))
      go_ret
      exact ⟨rfl, kk⟩
    · cases bT
      · (try simp only [Bool.false_and])
        go_enter Tryd.func52, Tryd.ntmps52
        go_wp2_with (first | (have HS0 := HST; clear HST HS0; refine wpList_store_cl rfl 105 _ _ rfl w.heap.size 0 5 _ rfl rfl rfl (CL.made w zF 105) (by show 5 ≤ 5; decide) iFd one5 ?_; intro w2 c2 k2 z2; clear z2; have kk : Keeps (fun _ => False) w w2 := ((Keeps.refl _ w).alloc _).trans' k2 (fun _ _ e => e) (fun i hi e => (by omega)); have y0 := kk.cell y0 (fun e => e); have y1 := kk.cell y1 (fun e => e); have y10 := kk.cell y10 (fun e => e); have y11 := kk.cell y11 (fun e => e); have c2 : CL w2 w.heap.size [.bool true, .bool true, .bool false, .bool false, .bool false] := c2; have x0 := c2.c 0 _ rfl; have x1 := c2.c 1 _ rfl; have x2 := c2.c 2 _ rfl; have x3 := c2.c 3 _ rfl; have x4 := c2.c 4 _ rfl) | (go_at_call 59; refine (hNm _ kk).mono ?_; rintro e w' ⟨rfl, rfl⟩) | (go_at_call 60; with_reducible (refine (hZb _ kk).mono ?_); rintro e w' ⟨rfl, rfl⟩; clear hZb))
        go_ret
        exact ⟨rfl, kk⟩
      · cases bE
        · go_enter Tryd.func52, Tryd.ntmps52
          go_wp2_with (first | (have HS0 := HST; clear HST HS0; refine wpList_store_cl rfl 105 _ _ rfl w.heap.size 0 5 _ rfl rfl rfl (CL.made w zF 105) (by show 5 ≤ 5; decide) iFd one5 ?_; intro w2 c2 k2 z2; clear z2; have kk : Keeps (fun _ => False) w w2 := ((Keeps.refl _ w).alloc _).trans' k2 (fun _ _ e => e) (fun i hi e => (by omega)); have y0 := kk.cell y0 (fun e => e); have y1 := kk.cell y1 (fun e => e); have y10 := kk.cell y10 (fun e => e); have y11 := kk.cell y11 (fun e => e); have c2 : CL w2 w.heap.size [.bool true, .bool true, .bool false, .bool false, .bool false] := c2; have x0 := c2.c 0 _ rfl; have x1 := c2.c 1 _ rfl; have x2 := c2.c 2 _ rfl; have x3 := c2.c 3 _ rfl; have x4 := c2.c 4 _ rfl) | (go_at_call 59; refine (hNm _ kk).mono ?_; rintro e w' ⟨rfl, rfl⟩) | (go_at_call 60; with_reducible (refine (hZb _ kk).mono ?_); rintro e w' ⟨rfl, rfl⟩; clear hZb))
          go_ret
          exact ⟨rfl, kk⟩
        · go_enter Tryd.func52, Tryd.ntmps52
          go_wp2_with (first | (have HS0 := HST; clear HST HS0; refine wpList_store_cl rfl 105 _ _ rfl w.heap.size 0 5 _ rfl rfl rfl (CL.made w zF 105) (by show 5 ≤ 5; decide) iFd one5 ?_; intro w2 c2 k2 z2; clear z2; have kk : Keeps (fun _ => False) w w2 := ((Keeps.refl _ w).alloc _).trans' k2 (fun _ _ e => e) (fun i hi e => (by omega)); have y0 := kk.cell y0 (fun e => e); have y1 := kk.cell y1 (fun e => e); have y10 := kk.cell y10 (fun e => e); have y11 := kk.cell y11 (fun e => e); have c2 : CL w2 w.heap.size [.bool true, .bool true, .bool false, .bool false, .bool false] := c2; have x0 := c2.c 0 _ rfl; have x1 := c2.c 1 _ rfl; have x2 := c2.c 2 _ rfl; have x3 := c2.c 3 _ rfl; have x4 := c2.c 4 _ rfl) | (go_at_call 59; refine (hNm _ kk).mono ?_; rintro e w' ⟨rfl, rfl⟩) | (go_at_call 60; with_reducible (refine (hZb _ kk).mono ?_); rintro e w' ⟨rfl, rfl⟩; clear hZb))
          go_ret
          exact ⟨rfl, kk⟩
set_option maxHeartbeats 4000000 in
set_option maxRecDepth 100000 in
theorem cbs_2 {w : World} {b o : Nat} {wd : Bs} {ka na : Int} {wa : Bs} {pa : Option Addr} {ma ca : Nat} {kb nb : Int} {wb : Bs} {pb : Option Addr} {mb cb : Nat} {pt : Option Addr} {mt ct : Nat} {pe : Option Addr} {me ce : Nat} (h : S12 w b o 2 wd ka na wa pa ma ca kb nb wb pb mb cb pt mt ct pe me ce) (_hw : wd.length ≤ 140737488355328) (hG : SG w) : Calls Tryd.prog 52 #[pA b o] w fun e w' => e = .returned (.bool (okC 2 wd (zrC ka na wa ma) (zrC kb nb wb mb) mt me)) ∧ Keeps (fun _ => False) w w' := by
  have y0 := h.y0
  have u0 : w.cell? ⟨0, 10, none⟩ = some (.bool false) := hG.us 10 _ rfl
  have u1 : w.cell? ⟨0, 11, none⟩ = some (.bool true) := hG.us 11 _ rfl
  have u2 : w.cell? ⟨0, 12, none⟩ = some (.bool true) := hG.us 12 _ rfl
  have u3 : w.cell? ⟨0, 13, none⟩ = some (.bool false) := hG.us 13 _ rfl
  have u4 : w.cell? ⟨0, 14, none⟩ = some (.bool false) := hG.us 14 _ rfl
  have hk : okC 2 wd (zrC ka na wa ma) (zrC kb nb wb mb) mt me = (wd.isEmpty && decide (mt = 0) && decide (me = 0)) := by simp [okC, usW, usA, usB, usT, usE]
  rw [hk]
  clear hk
  have e2 : (bs wd).toList.isEmpty = wd.isEmpty := by rw [bs_toList]
  have fT3 : ((mt : Int) == 0) = decide (mt = 0) := by rw [beq_int]; exact dec_cast mt 0
  have fT4 : (mt == 0) = decide (mt = 0) := beq_nat _ _
  have fT5 : decide ((mt : Int) = 0) = decide (mt = 0) := dec_cast mt 0
  have fE3 : ((me : Int) == 0) = decide (me = 0) := by rw [beq_int]; exact dec_cast me 0
  have fE4 : (me == 0) = decide (me = 0) := beq_nat _ _
  have fE5 : decide ((me : Int) = 0) = decide (me = 0) := dec_cast me 0
  generalize wd.isEmpty = bw at *
  generalize decide (mt = 0) = bT at *
  generalize decide (me = 0) = bE at *
  have HST : Hid True := trivial
  have y1 := h.y1
  have y10 := h.yt
  have y11 := h.ye
  generalize bs wd = W0 at *
  cases bw
  · (try simp only [Bool.false_and])
    go_enter Tryd.func52, Tryd.ntmps52
    go_wp2_with (first | (have HS0 := HST; clear HST HS0; refine wpList_store_cl rfl 105 _ _ rfl w.heap.size 0 5 _ rfl rfl rfl (CL.made w zF 105) (by show 5 ≤ 5; decide) iFd one5 ?_; intro w2 c2 k2 z2; clear z2; have kk : Keeps (fun _ => False) w w2 := ((Keeps.refl _ w).alloc _).trans' k2 (fun _ _ e => e) (fun i hi e => (by omega)); have y0 := kk.cell y0 (fun e => e); have y1 := kk.cell y1 (fun e => e); have y10 := kk.cell y10 (fun e => e); have y11 := kk.cell y11 (fun e => e); have c2 : CL w2 w.heap.size [.bool false, .bool true, .bool true, .bool false, .bool false] := c2; have x0 := c2.c 0 _ rfl; have x1 := c2.c 1 _ rfl; have x2 := c2.c 2 _ rfl; have x3 := c2.c 3 _ rfl; have x4 := c2.c 4 _ rfl))
    go_ret
    exact ⟨rfl, kk⟩
  · cases bT
    · (try simp only [Bool.false_and])
      go_enter Tryd.func52, Tryd.ntmps52
      go_wp2_with (first | (have HS0 := HST; clear HST HS0; refine wpList_store_cl rfl 105 _ _ rfl w.heap.size 0 5 _ rfl rfl rfl (CL.made w zF 105) (by show 5 ≤ 5; decide) iFd one5 ?_; intro w2 c2 k2 z2; clear z2; have kk : Keeps (fun _ => False) w w2 := ((Keeps.refl _ w).alloc _).trans' k2 (fun _ _ e => e) (fun i hi e => (by omega)); have y0 := kk.cell y0 (fun e => e); have y1 := kk.cell y1 (fun e => e); have y10 := kk.cell y10 (fun e => e); have y11 := kk.cell y11 (fun e => e); have c2 : CL w2 w.heap.size [.bool false, .bool true, .bool true, .bool false, .bool false] := c2; have x0 := c2.c 0 _ rfl; have x1 := c2.c 1 _ rfl; have x2 := c2.c 2 _ rfl; have x3 := c2.c 3 _ rfl; have x4 := c2.c 4 _ rfl))
      go_ret
      exact ⟨rfl, kk⟩
    · cases bE
      · go_enter Tryd.func52, Tryd.ntmps52
        go_wp2_with (first | (have HS0 := HST; clear HST HS0; refine wpList_store_cl rfl 105 _ _ rfl w.heap.size 0 5 _ rfl rfl rfl (CL.made w zF 105) (by show 5 ≤ 5; decide) iFd one5 ?_; intro w2 c2 k2 z2; clear z2; have kk : Keeps (fun _ => False) w w2 := ((Keeps.refl _ w).alloc _).trans' k2 (fun _ _ e => e) (fun i hi e => (by omega)); have y0 := kk.cell y0 (fun e => e); have y1 := kk.cell y1 (fun e => e); have y10 := kk.cell y10 (fun e => e); have y11 := kk.cell y11 (fun e => e); have c2 : CL w2 w.heap.size [.bool false, .bool true, .bool true, .bool false, .bool false] := c2; have x0 := c2.c 0 _ rfl; have x1 := c2.c 1 _ rfl; have x2 := c2.c 2 _ rfl; have x3 := c2.c 3 _ rfl; have x4 := c2.c 4 _ rfl))
        go_ret
        exact ⟨rfl, kk⟩
      · go_enter Tryd.func52, Tryd.ntmps52
        go_wp2_with (first | (have HS0 := HST; clear HST HS0; refine wpList_store_cl rfl 105 _ _ rfl w.heap.size 0 5 _ rfl rfl rfl (CL.made w zF 105) (by show 5 ≤ 5; decide) iFd one5 ?_; intro w2 c2 k2 z2; clear z2; have kk : Keeps (fun _ => False) w w2 := ((Keeps.refl _ w).alloc _).trans' k2 (fun _ _ e => e) (fun i hi e => (by omega)); have y0 := kk.cell y0 (fun e => e); have y1 := kk.cell y1 (fun e => e); have y10 := kk.cell y10 (fun e => e); have y11 := kk.cell y11 (fun e => e); have c2 : CL w2 w.heap.size [.bool false, .bool true, .bool true, .bool false, .bool false] := c2; have x0 := c2.c 0 _ rfl; have x1 := c2.c 1 _ rfl; have x2 := c2.c 2 _ rfl; have x3 := c2.c 3 _ rfl; have x4 := c2.c 4 _ rfl))
        go_ret
        exact ⟨rfl, kk⟩
set_option maxHeartbeats 4000000 in
set_option maxRecDepth 100000 in
theorem cbs_3 {w : World} {b o : Nat} {wd : Bs} {ka na : Int} {wa : Bs} {pa : Option Addr} {ma ca : Nat} {kb nb : Int} {wb : Bs} {pb : Option Addr} {mb cb : Nat} {pt : Option Addr} {mt ct : Nat} {pe : Option Addr} {me ce : Nat} (h : S12 w b o 3 wd ka na wa pa ma ca kb nb wb pb mb cb pt mt ct pe me ce) (_hw : wd.length ≤ 140737488355328) (hG : SG w) : Calls Tryd.prog 52 #[pA b o] w fun e w' => e = .returned (.bool (okC 3 wd (zrC ka na wa ma) (zrC kb nb wb mb) mt me)) ∧ Keeps (fun _ => False) w w' := by
  have y0 := h.y0
  have u0 : w.cell? ⟨0, 15, none⟩ = some (.bool false) := hG.us 15 _ rfl
  have u1 : w.cell? ⟨0, 16, none⟩ = some (.bool true) := hG.us 16 _ rfl
  have u2 : w.cell? ⟨0, 17, none⟩ = some (.bool false) := hG.us 17 _ rfl
  have u3 : w.cell? ⟨0, 18, none⟩ = some (.bool false) := hG.us 18 _ rfl
  have u4 : w.cell? ⟨0, 19, none⟩ = some (.bool false) := hG.us 19 _ rfl
  have hk : okC 3 wd (zrC ka na wa ma) (zrC kb nb wb mb) mt me = (wd.isEmpty && zrC kb nb wb mb && decide (mt = 0) && decide (me = 0)) := by simp [okC, usW, usA, usB, usT, usE]
  rw [hk]
  clear hk
  have e2 : (bs wd).toList.isEmpty = wd.isEmpty := by rw [bs_toList]
  have hZb : ∀ W, Keeps (fun _ => False) w W → Calls Tryd.prog 60 #[pA b (o + 6)] W fun e w' => e = .returned (.bool (zrC kb nb wb mb)) ∧ w' = W := fun W k => isz_any (h.eb.keep k (fun e => e))
  have fT3 : ((mt : Int) == 0) = decide (mt = 0) := by rw [beq_int]; exact dec_cast mt 0
  have fT4 : (mt == 0) = decide (mt = 0) := beq_nat _ _
  have fT5 : decide ((mt : Int) = 0) = decide (mt = 0) := dec_cast mt 0
  have fE3 : ((me : Int) == 0) = decide (me = 0) := by rw [beq_int]; exact dec_cast me 0
  have fE4 : (me == 0) = decide (me = 0) := beq_nat _ _
  have fE5 : decide ((me : Int) = 0) = decide (me = 0) := dec_cast me 0
  generalize wd.isEmpty = bw at *
  generalize zrC kb nb wb mb = bB at *
  generalize decide (mt = 0) = bT at *
  generalize decide (me = 0) = bE at *
  have HST : Hid True := trivial
  have y1 := h.y1
  have y10 := h.yt
  have y11 := h.ye
  generalize bs wd = W0 at *
  cases bw
  · (try simp only [Bool.false_and])
    go_enter Tryd.func52, Tryd.ntmps52
    go_wp2_with (first | (have HS0 := HST; clear HST HS0; refine wpList_store_cl rfl 105 _ _ rfl w.heap.size 0 5 _ rfl rfl rfl (CL.made w zF 105) (by show 5 ≤ 5; decide) iFd one5 ?_; intro w2 c2 k2 z2; clear z2; have kk : Keeps (fun _ => False) w w2 := ((Keeps.refl _ w).alloc _).trans' k2 (fun _ _ e => e) (fun i hi e => (by omega)); have y0 := kk.cell y0 (fun e => e); have y1 := kk.cell y1 (fun e => e); have y10 := kk.cell y10 (fun e => e); have y11 := kk.cell y11 (fun e => e); have c2 : CL w2 w.heap.size [.bool false, .bool true, .bool false, .bool false, .bool false] := c2; have x0 := c2.c 0 _ rfl; have x1 := c2.c 1 _ rfl; have x2 := c2.c 2 _ rfl; have x3 := c2.c 3 _ rfl; have x4 := c2.c 4 _ rfl) | (go_at_call 60; with_reducible (refine (hZb _ kk).mono ?_); rintro e w' ⟨rfl, rfl⟩; clear hZb))
    go_ret
    exact ⟨rfl, kk⟩
  · cases bB
    · (try simp only [Bool.false_and])
      go_enter Tryd.func52, Tryd.ntmps52
      go_wp2_with (first | (have HS0 := HST; clear HST HS0; refine wpList_store_cl rfl 105 _ _ rfl w.heap.size 0 5 _ rfl rfl rfl (CL.made w zF 105) (by show 5 ≤ 5; decide) iFd one5 ?_; intro w2 c2 k2 z2; clear z2; have kk : Keeps (fun _ => False) w w2 := ((Keeps.refl _ w).alloc _).trans' k2 (fun _ _ e => e) (fun i hi e => (by omega)); have y0 := kk.cell y0 (fun e => e); have y1 := kk.cell y1 (fun e => e); have y10 := kk.cell y10 (fun e => e); have y11 := kk.cell y11 (fun e => e); have c2 : CL w2 w.heap.size [.bool false, .bool true, .bool false, .bool false, .bool false] := c2; have x0 := c2.c 0 _ rfl; have x1 := c2.c 1 _ rfl; have x2 := c2.c 2 _ rfl; have x3 := c2.c 3 _ rfl; have x4 := c2.c 4 _ rfl) | (go_at_call 60; with_reducible (refine (hZb _ kk).mono ?_); rintro e w' ⟨rfl, rfl⟩; clear hZb))
      go_ret
      exact ⟨rfl, kk⟩
    · cases bT
      · (try simp only [Bool.false_and])
        go_enter Tryd.func52, Tryd.ntmps52
        go_wp2_with (first | (have HS0 := HST; clear HST HS0; refine wpList_store_cl rfl 105 _ _ rfl w.heap.size 0 5 _ rfl rfl rfl (CL.made w zF 105) (by show 5 ≤ 5; decide) iFd one5 ?_; intro w2 c2 k2 z2; clear z2; have kk : Keeps (fun _ => False) w w2 := ((Keeps.refl _ w).alloc _).trans' k2 (fun _ _ e => e) (fun i hi e => (by omega)); have y0 := kk.cell y0 (fun e => e); have y1 := kk.cell y1 (fun e => e); have y10 := kk.cell y10 (fun e => e); have y11 := kk.cell y11 (fun e => e); have c2 : CL w2 w.heap.size [.bool false, .bool true, .bool false, .bool false, .bool false] := c2; have x0 := c2.c 0 _ rfl; have x1 := c2.c 1 _ rfl; have x2 := c2.c 2 _ rfl; have x3 := c2.c 3 _ rfl; have x4 := c2.c 4 _ rfl) | (go_at_call 60; with_reducible (refine (hZb _ kk).mono ?_); rintro e w' ⟨rfl, rfl⟩; clear hZb))
        go_ret
        exact ⟨rfl, kk⟩
      · cases bE
        · go_enter Tryd.func52, Tryd.ntmps52
          go_wp2_with (first | (have HS0 := HST; clear HST HS0; refine wpList_store_cl rfl 105 _ _ rfl w.heap.size 0 5 _ rfl rfl rfl (CL.made w zF 105) (by show 5 ≤ 5; decide) iFd one5 ?_; intro w2 c2 k2 z2; clear z2; have kk : Keeps (fun _ => False) w w2 := ((Keeps.refl _ w).alloc _).trans' k2 (fun _ _ e => e) (fun i hi e => (by omega)); have y0 := kk.cell y0 (fun e => e); have y1 := kk.cell y1 (fun e => e); have y10 := kk.cell y10 (fun e => e); have y11 := kk.cell y11 (fun e => e); have c2 : CL w2 w.heap.size [.bool false, .bool true, .bool false, .bool false, .bool false] := c2; have x0 := c2.c 0 _ rfl; have x1 := c2.c 1 _ rfl; have x2 := c2.c 2 _ rfl; have x3 := c2.c 3 _ rfl; have x4 := c2.c 4 _ rfl) | (go_at_call 60; with_reducible (refine (hZb _ kk).mono ?_); rintro e w' ⟨rfl, rfl⟩; clear hZb))
          go_ret
          exact ⟨rfl, kk⟩
        · go_enter Tryd.func52, Tryd.ntmps52
          go_wp2_with (first | (have HS0 := HST; clear HST HS0; refine wpList_store_cl rfl 105 _ _ rfl w.heap.size 0 5 _ rfl rfl rfl (CL.made w zF 105) (by show 5 ≤ 5; decide) iFd one5 ?_; intro w2 c2 k2 z2; clear z2; have kk : Keeps (fun _ => False) w w2 := ((Keeps.refl _ w).alloc _).trans' k2 (fun _ _ e => e) (fun i hi e => (by omega)); have y0 := kk.cell y0 (fun e => e); have y1 := kk.cell y1 (fun e => e); have y10 := kk.cell y10 (fun e => e); have y11 := kk.cell y11 (fun e => e); have c2 : CL w2 w.heap.size [.bool false, .bool true, .bool false, .bool false, .bool false] := c2; have x0 := c2.c 0 _ rfl; have x1 := c2.c 1 _ rfl; have x2 := c2.c 2 _ rfl; have x3 := c2.c 3 _ rfl; have x4 := c2.c 4 _ rfl) | (go_at_call 60; with_reducible (refine (hZb _ kk).mono ?_); rintro e w' ⟨rfl, rfl⟩; clear hZb))
          go_ret
          exact ⟨rfl, kk⟩
set_option maxHeartbeats 4000000 in
set_option maxRecDepth 100000 in
theorem cbs_4 {w : World} {b o : Nat} {wd : Bs} {ka na : Int} {wa : Bs} {pa : Option Addr} {ma ca : Nat} {kb nb : Int} {wb : Bs} {pb : Option Addr} {mb cb : Nat} {pt : Option Addr} {mt ct : Nat} {pe : Option Addr} {me ce : Nat} (h : S12 w b o 4 wd ka na wa pa ma ca kb nb wb pb mb cb pt mt ct pe me ce) (_hw : wd.length ≤ 140737488355328) (hG : SG w) : Calls Tryd.prog 52 #[pA b o] w fun e w' => e = .returned (.bool (okC 4 wd (zrC ka na wa ma) (zrC kb nb wb mb) mt me)) ∧ Keeps (fun _ => False) w w' := by
  have y0 := h.y0
  have u0 : w.cell? ⟨0, 20, none⟩ = some (.bool false) := hG.us 20 _ rfl
  have u1 : w.cell? ⟨0, 21, none⟩ = some (.bool true) := hG.us 21 _ rfl
  have u2 : w.cell? ⟨0, 22, none⟩ = some (.bool false) := hG.us 22 _ rfl
  have u3 : w.cell? ⟨0, 23, none⟩ = some (.bool true) := hG.us 23 _ rfl
  have u4 : w.cell? ⟨0, 24, none⟩ = some (.bool true) := hG.us 24 _ rfl
  have hk : okC 4 wd (zrC ka na wa ma) (zrC kb nb wb mb) mt me = (wd.isEmpty && zrC kb nb wb mb) := by simp [okC, usW, usA, usB, usT, usE]
  rw [hk]
  clear hk
  have e2 : (bs wd).toList.isEmpty = wd.isEmpty := by rw [bs_toList]
  have hZb : ∀ W, Keeps (fun _ => False) w W → Calls Tryd.prog 60 #[pA b (o + 6)] W fun e w' => e = .returned (.bool (zrC kb nb wb mb)) ∧ w' = W := fun W k => isz_any (h.eb.keep k (fun e => e))
  generalize wd.isEmpty = bw at *
  generalize zrC kb nb wb mb = bB at *
  have HST : Hid True := trivial
  have y1 := h.y1
  have y10 := h.yt
  have y11 := h.ye
  generalize bs wd = W0 at *
  cases bw
  · (try simp only [Bool.false_and])
    go_enter Tryd.func52, Tryd.ntmps52
    go_wp2_with (first | (have HS0 := HST; clear HST HS0; refine wpList_store_cl rfl 105 _ _ rfl w.heap.size 0 5 _ rfl rfl rfl (CL.made w zF 105) (by show 5 ≤ 5; decide) iFd one5 ?_; intro w2 c2 k2 z2; clear z2; have kk : Keeps (fun _ => False) w w2 := ((Keeps.refl _ w).alloc _).trans' k2 (fun _ _ e => e) (fun i hi e => (by omega)); have y0 := kk.cell y0 (fun e => e); have y1 := kk.cell y1 (fun e => e); have y10 := kk.cell y10 (fun e => e); have y11 := kk.cell y11 (fun e => e); have c2 : CL w2 w.heap.size [.bool false, .bool true, .bool false, .bool true, .bool true] := c2; have x0 := c2.c 0 _ rfl; have x1 := c2.c 1 _ rfl; have x2 := c2.c 2 _ rfl; have x3 := c2.c 3 _ rfl; have x4 := c2.c 4 _ rfl) | (go_at_call 60; with_reducible (refine (hZb _ kk).mono ?_); rintro e w' ⟨rfl, rfl⟩; clear hZb))
    go_ret
    exact ⟨rfl, kk⟩
  · cases bB
    · go_enter Tryd.func52, Tryd.ntmps52
      go_wp2_with (first | (have HS0 := HST; clear HST HS0; refine wpList_store_cl rfl 105 _ _ rfl w.heap.size 0 5 _ rfl rfl rfl (CL.made w zF 105) (by show 5 ≤ 5; decide) iFd one5 ?_; intro w2 c2 k2 z2; clear z2; have kk : Keeps (fun _ => False) w w2 := ((Keeps.refl _ w).alloc _).trans' k2 (fun _ _ e => e) (fun i hi e => (by omega)); have y0 := kk.cell y0 (fun e => e); have y1 := kk.cell y1 (fun e => e); have y10 := kk.cell y10 (fun e => e); have y11 := kk.cell y11 (fun e => e); have c2 : CL w2 w.heap.size [.bool false, .bool true, .bool false, .bool true, .bool true] := c2; have x0 := c2.c 0 _ rfl; have x1 := c2.c 1 _ rfl; have x2 := c2.c 2 _ rfl; have x3 := c2.c 3 _ rfl; have x4 := c2.c 4 _ rfl) | (go_at_call 60; with_reducible (refine (hZb _ kk).mono ?_); rintro e w' ⟨rfl, rfl⟩; clear hZb))
      go_ret
      exact ⟨rfl, kk⟩
    · go_enter Tryd.func52, Tryd.ntmps52
      go_wp2_with (first | (have HS0 := HST; clear HST HS0; refine wpList_store_cl rfl 105 _ _ rfl w.heap.size 0 5 _ rfl rfl rfl (CL.made w zF 105) (by show 5 ≤ 5; decide) iFd one5 ?_; intro w2 c2 k2 z2; clear z2; have kk : Keeps (fun _ => False) w w2 := ((Keeps.refl _ w).alloc _).trans' k2 (fun _ _ e => e) (fun i hi e => (by omega)); have y0 := kk.cell y0 (fun e => e); have y1 := kk.cell y1 (fun e => e); have y10 := kk.cell y10 (fun e => e); have y11 := kk.cell y11 (fun e => e); have c2 : CL w2 w.heap.size [.bool false, .bool true, .bool false, .bool true, .bool true] := c2; have x0 := c2.c 0 _ rfl; have x1 := c2.c 1 _ rfl; have x2 := c2.c 2 _ rfl; have x3 := c2.c 3 _ rfl; have x4 := c2.c 4 _ rfl) | (go_at_call 60; with_reducible (refine (hZb _ kk).mono ?_); rintro e w' ⟨rfl, rfl⟩; clear hZb))
      go_ret
      exact ⟨rfl, kk⟩
set_option maxHeartbeats 4000000 in
set_option maxRecDepth 100000 in
theorem cbs_5 {w : World} {b o : Nat} {wd : Bs} {ka na : Int} {wa : Bs} {pa : Option Addr} {ma ca : Nat} {kb nb : Int} {wb : Bs} {pb : Option Addr} {mb cb : Nat} {pt : Option Addr} {mt ct : Nat} {pe : Option Addr} {me ce : Nat} (h : S12 w b o 5 wd ka na wa pa ma ca kb nb wb pb mb cb pt mt ct pe me ce) (_hw : wd.length ≤ 140737488355328) (hG : SG w) : Calls Tryd.prog 52 #[pA b o] w fun e w' => e = .returned (.bool (okC 5 wd (zrC ka na wa ma) (zrC kb nb wb mb) mt me)) ∧ Keeps (fun _ => False) w w' := by
  have y0 := h.y0
  have u0 : w.cell? ⟨0, 25, none⟩ = some (.bool false) := hG.us 25 _ rfl
  have u1 : w.cell? ⟨0, 26, none⟩ = some (.bool true) := hG.us 26 _ rfl
  have u2 : w.cell? ⟨0, 27, none⟩ = some (.bool false) := hG.us 27 _ rfl
  have u3 : w.cell? ⟨0, 28, none⟩ = some (.bool true) := hG.us 28 _ rfl
  have u4 : w.cell? ⟨0, 29, none⟩ = some (.bool false) := hG.us 29 _ rfl
  have hk : okC 5 wd (zrC ka na wa ma) (zrC kb nb wb mb) mt me = (wd.isEmpty && zrC kb nb wb mb && decide (me = 0)) := by simp [okC, usW, usA, usB, usT, usE]
  rw [hk]
  clear hk
  have e2 : (bs wd).toList.isEmpty = wd.isEmpty := by rw [bs_toList]
  have hZb : ∀ W, Keeps (fun _ => False) w W → Calls Tryd.prog 60 #[pA b (o + 6)] W fun e w' => e = .returned (.bool (zrC kb nb wb mb)) ∧ w' = W := fun W k => isz_any (h.eb.keep k (fun e => e))
  have fE3 : ((me : Int) == 0) = decide (me = 0) := by rw [beq_int]; exact dec_cast me 0
  have fE4 : (me == 0) = decide (me = 0) := beq_nat _ _
  have fE5 : decide ((me : Int) = 0) = decide (me = 0) := dec_cast me 0
  generalize wd.isEmpty = bw at *
  generalize zrC kb nb wb mb = bB at *
  generalize decide (me = 0) = bE at *
  have HST : Hid True := trivial
  have y1 := h.y1
  have y10 := h.yt
  have y11 := h.ye
  generalize bs wd = W0 at *
  cases bw
  · (try simp only [Bool.false_and])
    go_enter Tryd.func52, Tryd.ntmps52
    go_wp2_with (first | (have HS0 := HST; clear HST HS0; refine wpList_store_cl rfl 105 _ _ rfl w.heap.size 0 5 _ rfl rfl rfl (CL.made w zF 105) (by show 5 ≤ 5; decide) iFd one5 ?_; intro w2 c2 k2 z2; clear z2; have kk : Keeps (fun _ => False) w w2 := ((Keeps.refl _ w).alloc _).trans' k2 (fun _ _ e => e) (fun i hi e => (by omega)); have y0 := kk.cell y0 (fun e => e); have y1 := kk.cell y1 (fun e => e); have y10 := kk.cell y10 (fun e => e); have y11 := kk.cell y11 (fun e => e); have c2 : CL w2 w.heap.size [.bool false, .bool true, .bool false, .bool true, .bool false] := c2; have x0 := c2.c 0 _ rfl; have x1 := c2.c 1 _ rfl; have x2 := c2.c 2 _ rfl; have x3 := c2.c 3 _ rfl; have x4 := c2.c 4 _ rfl) | (go_at_call 60; with_reducible (refine (hZb _ kk).mono ?_); rintro e w' ⟨rfl, rfl⟩; clear hZb))
    go_ret
    exact ⟨rfl, kk⟩
  · cases bB
    · (try simp only [Bool.false_and])
      go_enter Tryd.func52, Tryd.ntmps52
      go_wp2_with (first | (have HS0 := HST; clear HST HS0; refine wpList_store_cl rfl 105 _ _ rfl w.heap.size 0 5 _ rfl rfl rfl (CL.made w zF 105) (by show 5 ≤ 5; decide) iFd one5 ?_; intro w2 c2 k2 z2; clear z2; have kk : Keeps (fun _ => False) w w2 := ((Keeps.refl _ w).alloc _).trans' k2 (fun _ _ e => e) (fun i hi e => (by omega)); have y0 := kk.cell y0 (fun e => e); have y1 := kk.cell y1 (fun e => e); have y10 := kk.cell y10 (fun e => e); have y11 := kk.cell y11 (fun e => e); have c2 : CL w2 w.heap.size [.bool false, .bool true, .bool false, .bool true, .bool false] := c2; have x0 := c2.c 0 _ rfl; have x1 := c2.c 1 _ rfl; have x2 := c2.c 2 _ rfl; have x3 := c2.c 3 _ rfl; have x4 := c2.c 4 _ rfl) | (go_at_call 60; with_reducible (refine (hZb _ kk).mono ?_); rintro e w' ⟨rfl, rfl⟩; clear hZb))
      go_ret
      exact ⟨rfl, kk⟩
    · cases bE
      · go_enter Tryd.func52, Tryd.ntmps52
        go_wp2_with (first | (have HS0 := HST; clear HST HS0; refine wpList_store_cl rfl 105 _ _ rfl w.heap.size 0 5 _ rfl rfl rfl (CL.made w zF 105) (by show 5 ≤ 5; decide) iFd one5 ?_; intro w2 c2 k2 z2; clear z2; have kk : Keeps (fun _ => False) w w2 := ((Keeps.refl _ w).alloc _).trans' k2 (fun _ _ e => e) (fun i hi e => (by omega)); have y0 := kk.cell y0 (fun e => e); have y1 := kk.cell y1 (fun e => e); have y10 := kk.cell y10 (fun e => e); have y11 := kk.cell y11 (fun e => e); have c2 : CL w2 w.heap.size [.bool false, .bool true, .bool false, .bool true, .bool false] := c2; have x0 := c2.c 0 _ rfl; have x1 := c2.c 1 _ rfl; have x2 := c2.c 2 _ rfl; have x3 := c2.c 3 _ rfl; have x4 := c2.c 4 _ rfl) | (go_at_call 60; with_reducible (refine (hZb _ kk).mono ?_); rintro e w' ⟨rfl, rfl⟩; clear hZb))
        go_ret
        exact ⟨rfl, kk⟩
      · go_enter Tryd.func52, Tryd.ntmps52
        go_wp2_with (first | (have HS0 := HST; clear HST HS0; refine wpList_store_cl rfl 105 _ _ rfl w.heap.size 0 5 _ rfl rfl rfl (CL.made w zF 105) (by show 5 ≤ 5; decide) iFd one5 ?_; intro w2 c2 k2 z2; clear z2; have kk : Keeps (fun _ => False) w w2 := ((Keeps.refl _ w).alloc _).trans' k2 (fun _ _ e => e) (fun i hi e => (by omega)); have y0 := kk.cell y0 (fun e => e); have y1 := kk.cell y1 (fun e => e); have y10 := kk.cell y10 (fun e => e); have y11 := kk.cell y11 (fun e => e); have c2 : CL w2 w.heap.size [.bool false, .bool true, .bool false, .bool true, .bool false] := c2; have x0 := c2.c 0 _ rfl; have x1 := c2.c 1 _ rfl; have x2 := c2.c 2 _ rfl; have x3 := c2.c 3 _ rfl; have x4 := c2.c 4 _ rfl) | (go_at_call 60; with_reducible (refine (hZb _ kk).mono ?_); rintro e w' ⟨rfl, rfl⟩; clear hZb))
        go_ret
        exact ⟨rfl, kk⟩
set_option maxHeartbeats 4000000 in
set_option maxRecDepth 100000 in
theorem cbs_6 {w : World} {b o : Nat} {wd : Bs} {ka na : Int} {wa : Bs} {pa : Option Addr} {ma ca : Nat} {kb nb : Int} {wb : Bs} {pb : Option Addr} {mb cb : Nat} {pt : Option Addr} {mt ct : Nat} {pe : Option Addr} {me ce : Nat} (h : S12 w b o 6 wd ka na wa pa ma ca kb nb wb pb mb cb pt mt ct pe me ce) (_hw : wd.length ≤ 140737488355328) (hG : SG w) : Calls Tryd.prog 52 #[pA b o] w fun e w' => e = .returned (.bool (okC 6 wd (zrC ka na wa ma) (zrC kb nb wb mb) mt me)) ∧ Keeps (fun _ => False) w w' := by
  have y0 := h.y0
  have u0 : w.cell? ⟨0, 30, none⟩ = some (.bool false) := hG.us 30 _ rfl
  have u1 : w.cell? ⟨0, 31, none⟩ = some (.bool false) := hG.us 31 _ rfl
  have u2 : w.cell? ⟨0, 32, none⟩ = some (.bool false) := hG.us 32 _ rfl
  have u3 : w.cell? ⟨0, 33, none⟩ = some (.bool false) := hG.us 33 _ rfl
  have u4 : w.cell? ⟨0, 34, none⟩ = some (.bool false) := hG.us 34 _ rfl
  have hk : okC 6 wd (zrC ka na wa ma) (zrC kb nb wb mb) mt me = (wd.isEmpty && zrC ka na wa ma && zrC kb nb wb mb && decide (mt = 0) && decide (me = 0)) := by simp [okC, usW, usA, usB, usT, usE]
  rw [hk]
  clear hk
  have e2 : (bs wd).toList.isEmpty = wd.isEmpty := by rw [bs_toList]
  have hZa : ∀ W, Keeps (fun _ => False) w W → Calls Tryd.prog 60 #[pA b (o + 2)] W fun e w' => e = .returned (.bool (zrC ka na wa ma)) ∧ w' = W := fun W k => isz_any (h.ea.keep k (fun e => e))
  have hZb : ∀ W, Keeps (fun _ => False) w W → Calls Tryd.prog 60 #[pA b (o + 6)] W fun e w' => e = .returned (.bool (zrC kb nb wb mb)) ∧ w' = W := fun W k => isz_any (h.eb.keep k (fun e => e))
  have fT3 : ((mt : Int) == 0) = decide (mt = 0) := by rw [beq_int]; exact dec_cast mt 0
  have fT4 : (mt == 0) = decide (mt = 0) := beq_nat _ _
  have fT5 : decide ((mt : Int) = 0) = decide (mt = 0) := dec_cast mt 0
  have fE3 : ((me : Int) == 0) = decide (me = 0) := by rw [beq_int]; exact dec_cast me 0
  have fE4 : (me == 0) = decide (me = 0) := beq_nat _ _
  have fE5 : decide ((me : Int) = 0) = decide (me = 0) := dec_cast me 0
  generalize wd.isEmpty = bw at *
  generalize zrC ka na wa ma = bA at *
  generalize zrC kb nb wb mb = bB at *
  generalize decide (mt = 0) = bT at *
  generalize decide (me = 0) = bE at *
  have HST : Hid True := trivial
  have y1 := h.y1
  have y10 := h.yt
  have y11 := h.ye
  generalize bs wd = W0 at *
  cases bw
  · (try simp only [Bool.false_and])
    go_enter Tryd.func52, Tryd.ntmps52
    go_wp2_with (first | (have HS0 := HST; clear HST HS0; refine wpList_store_cl rfl 105 _ _ rfl w.heap.size 0 5 _ rfl rfl rfl (CL.made w zF 105) (by show 5 ≤ 5; decide) iFd one5 ?_; intro w2 c2 k2 z2; clear z2; have kk : Keeps (fun _ => False) w w2 := ((Keeps.refl _ w).alloc _).trans' k2 (fun _ _ e => e) (fun i hi e => (by omega)); have y0 := kk.cell y0 (fun e => e); have y1 := kk.cell y1 (fun e => e); have y10 := kk.cell y10 (fun e => e); have y11 := kk.cell y11 (fun e => e); have c2 : CL w2 w.heap.size [.bool false, .bool false, .bool false, .bool false, .bool false] := c2; have x0 := c2.c 0 _ rfl; have x1 := c2.c 1 _ rfl; have x2 := c2.c 2 _ rfl; have x3 := c2.c 3 _ rfl; have x4 := c2.c 4 _ rfl) | (go_at_call 60; with_reducible (refine (hZa _ kk).mono ?_); rintro e w' ⟨rfl, rfl⟩; clear hZa) | (go_at_call 60; with_reducible (refine (hZb _ kk).mono ?_); rintro e w' ⟨rfl, rfl⟩; clear hZb))
    go_ret
    exact ⟨rfl, kk⟩
  · cases bA
    · (try simp only [Bool.false_and])
      go_enter Tryd.func52, Tryd.ntmps52
      go_wp2_with (first | (have HS0 := HST; clear HST HS0; refine wpList_store_cl rfl 105 _ _ rfl w.heap.size 0 5 _ rfl rfl rfl (CL.made w zF 105) (by show 5 ≤ 5; decide) iFd one5 ?_; intro w2 c2 k2 z2; clear z2; have kk : Keeps (fun _ => False) w w2 := ((Keeps.refl _ w).alloc _).trans' k2 (fun _ _ e => e) (fun i hi e => (by omega)); have y0 := kk.cell y0 (fun e => e); have y1 := kk.cell y1 (fun e => e); have y10 := kk.cell y10 (fun e => e); have y11 := kk.cell y11 (fun e => e); have c2 : CL w2 w.heap.size [.bool false, .bool false, .bool false, .bool false, .bool false] := c2; have x0 := c2.c 0 _ rfl; have x1 := c2.c 1 _ rfl; have x2 := c2.c 2 _ rfl; have x3 := c2.c 3 _ rfl; have x4 := c2.c 4 _ rfl) | (go_at_call 60; with_reducible (refine (hZa _ kk).mono ?_); rintro e w' ⟨rfl, rfl⟩; clear hZa) | (go_at_call 60; with_reducible (refine (hZb _ kk).mono ?_); rintro e w' ⟨rfl, rfl⟩; clear hZb))
      go_ret
      exact ⟨rfl, kk⟩
    · cases bB
      · (try simp only [Bool.false_and])
        go_enter Tryd.func52, Tryd.ntmps52
        go_wp2_with (first | (have HS0 := HST; clear HST HS0; refine wpList_store_cl rfl 105 _ _ rfl w.heap.size 0 5 _ rfl rfl rfl (CL.made w zF 105) (by show 5 ≤ 5; decide) iFd one5 ?_; intro w2 c2 k2 z2; clear z2; have kk : Keeps (fun _ => False) w w2 := ((Keeps.refl _ w).alloc _).trans' k2 (fun _ _ e => e) (fun i hi e => (by omega)); have y0 := kk.cell y0 (fun e => e); have y1 := kk.cell y1 (fun e => e); have y10 := kk.cell y10 (fun e => e); have y11 := kk.cell y11 (fun e => e); have c2 : CL w2 w.heap.size [.bool false, .bool false, .bool false, .bool false, .bool false] := c2; have x0 := c2.c 0 _ rfl; have x1 := c2.c 1 _ rfl; have x2 := c2.c 2 _ rfl; have x3 := c2.c 3 _ rfl; have x4 := c2.c 4 _ rfl) | (go_at_call 60; with_reducible (refine (hZa _ kk).mono ?_); rintro e w' ⟨rfl, rfl⟩; clear hZa) | (go_at_call 60; with_reducible (refine (hZb _ kk).mono ?_); rintro e w' ⟨rfl, rfl⟩; clear hZb))
        go_ret
        exact ⟨rfl, kk⟩
      · cases bT
        · (try simp only [Bool.false_and])
          go_enter Tryd.func52, Tryd.ntmps52
          go_wp2_with (first | (have HS0 := HST; clear HST HS0; refine wpList_store_cl rfl 105 _ _ rfl w.heap.size 0 5 _ rfl rfl rfl (CL.made w zF 105) (by show 5 ≤ 5; decide) iFd one5 ?_; intro w2 c2 k2 z2; clear z2; have kk : Keeps (fun _ => False) w w2 := ((Keeps.refl _ w).alloc _).trans' k2 (fun _ _ e => e) (fun i hi e => (by omega)); have y0 := kk.cell y0 (fun e => e); have y1 := kk.cell y1 (fun e => e); have y10 := kk.cell y10 (fun e => e); have y11 := kk.cell y11 (fun e => e); have c2 : CL w2 w.heap.size [.bool false, .bool false, .bool false, .bool false, .bool false] := c2; have x0 := c2.c 0 _ rfl; have x1 := c2.c 1 _ rfl; have x2 := c2.c 2 _ rfl; have x3 := c2.c 3 _ rfl; have x4 := c2.c 4 _ rfl) | (go_at_call 60; with_reducible (refine (hZa _ kk).mono ?_); rintro e w' ⟨rfl, rfl⟩; clear hZa) | (go_at_call 60; with_reducible (refine (hZb _ kk).mono ?_); rintro e w' ⟨rfl, rfl⟩; clear hZb))
          go_ret
          exact ⟨rfl, kk⟩
        · cases bE
          · go_enter Tryd.func52, Tryd.ntmps52
            go_wp2_with (first | (have HS0 := HST; clear HST HS0; refine wpList_store_cl rfl 105 _ _ rfl w.heap.size 0 5 _ rfl rfl rfl (CL.made w zF 105) (by show 5 ≤ 5; decide) iFd one5 ?_; intro w2 c2 k2 z2; clear z2; have kk : Keeps (fun _ => False) w w2 := ((Keeps.refl _ w).alloc _).trans' k2 (fun _ _ e => e) (fun i hi e => (by omega)); have y0 := kk.cell y0 (fun e => e); have y1 := kk.cell y1 (fun e => e); have y10 := kk.cell y10 (fun e => e); have y11 := kk.cell y11 (fun e => e); have c2 : CL w2 w.heap.size [.bool false, .bool false, .bool false, .bool false, .bool false] := c2; have x0 := c2.c 0 _ rfl; have x1 := c2.c 1 _ rfl; have x2 := c2.c 2 _ rfl; have x3 := c2.c 3 _ rfl; have x4 := c2.c 4 _ rfl) | (go_at_call 60; with_reducible (refine (hZa _ kk).mono ?_); rintro e w' ⟨rfl, rfl⟩; clear hZa) | (go_at_call 60; with_reducible (refine (hZb _ kk).mono ?_); rintro e w' ⟨rfl, rfl⟩; clear hZb))
            go_ret
            exact ⟨rfl, kk⟩
          · go_enter Tryd.func52, Tryd.ntmps52
            go_wp2_with (first | (have HS0 := HST; clear HST HS0; refine wpList_store_cl rfl 105 _ _ rfl w.heap.size 0 5 _ rfl rfl rfl (CL.made w zF 105) (by show 5 ≤ 5; decide) iFd one5 ?_; intro w2 c2 k2 z2; clear z2; have kk : Keeps (fun _ => False) w w2 := ((Keeps.refl _ w).alloc _).trans' k2 (fun _ _ e => e) (fun i hi e => (by omega)); have y0 := kk.cell y0 (fun e => e); have y1 := kk.cell y1 (fun e => e); have y10 := kk.cell y10 (fun e => e); have y11 := kk.cell y11 (fun e => e); have c2 : CL w2 w.heap.size [.bool false, .bool false, .bool false, .bool false, .bool false] := c2; have x0 := c2.c 0 _ rfl; have x1 := c2.c 1 _ rfl; have x2 := c2.c 2 _ rfl; have x3 := c2.c 3 _ rfl; have x4 := c2.c 4 _ rfl) | (go_at_call 60; with_reducible (refine (hZa _ kk).mono ?_); rintro e w' ⟨rfl, rfl⟩; clear hZa) | (go_at_call 60; with_reducible (refine (hZb _ kk).mono ?_); rintro e w' ⟨rfl, rfl⟩; clear hZb))
            go_ret
            exact ⟨rfl, kk⟩
set_option maxHeartbeats 4000000 in
set_option maxRecDepth 100000 in
theorem cbs_7 {w : World} {b o : Nat} {wd : Bs} {ka na : Int} {wa : Bs} {pa : Option Addr} {ma ca : Nat} {kb nb : Int} {wb : Bs} {pb : Option Addr} {mb cb : Nat} {pt : Option Addr} {mt ct : Nat} {pe : Option Addr} {me ce : Nat} (h : S12 w b o 7 wd ka na wa pa ma ca kb nb wb pb mb cb pt mt ct pe me ce) (_hw : wd.length ≤ 140737488355328) (hG : SG w) : Calls Tryd.prog 52 #[pA b o] w fun e w' => e = .returned (.bool (okC 7 wd (zrC ka na wa ma) (zrC kb nb wb mb) mt me)) ∧ Keeps (fun _ => False) w w' := by
  have y0 := h.y0
  have u0 : w.cell? ⟨0, 35, none⟩ = some (.bool false) := hG.us 35 _ rfl
  have u1 : w.cell? ⟨0, 36, none⟩ = some (.bool true) := hG.us 36 _ rfl
  have u2 : w.cell? ⟨0, 37, none⟩ = some (.bool false) := hG.us 37 _ rfl
  have u3 : w.cell? ⟨0, 38, none⟩ = some (.bool false) := hG.us 38 _ rfl
  have u4 : w.cell? ⟨0, 39, none⟩ = some (.bool false) := hG.us 39 _ rfl
  have hk : okC 7 wd (zrC ka na wa ma) (zrC kb nb wb mb) mt me = (wd.isEmpty && zrC kb nb wb mb && decide (mt = 0) && decide (me = 0)) := by simp [okC, usW, usA, usB, usT, usE]
  rw [hk]
  clear hk
  have e2 : (bs wd).toList.isEmpty = wd.isEmpty := by rw [bs_toList]
  have hZb : ∀ W, Keeps (fun _ => False) w W → Calls Tryd.prog 60 #[pA b (o + 6)] W fun e w' => e = .returned (.bool (zrC kb nb wb mb)) ∧ w' = W := fun W k => isz_any (h.eb.keep k (fun e => e))
  have fT3 : ((mt : Int) == 0) = decide (mt = 0) := by rw [beq_int]; exact dec_cast mt 0
  have fT4 : (mt == 0) = decide (mt = 0) := beq_nat _ _
  have fT5 : decide ((mt : Int) = 0) = decide (mt = 0) := dec_cast mt 0
  have fE3 : ((me : Int) == 0) = decide (me = 0) := by rw [beq_int]; exact dec_cast me 0
  have fE4 : (me == 0) = decide (me = 0) := beq_nat _ _
  have fE5 : decide ((me : Int) = 0) = decide (me = 0) := dec_cast me 0
  generalize wd.isEmpty = bw at *
  generalize zrC kb nb wb mb = bB at *
  generalize decide (mt = 0) = bT at *
  generalize decide (me = 0) = bE at *
  have HST : Hid True := trivial
  have y1 := h.y1
  have y10 := h.yt
  have y11 := h.ye
  generalize bs wd = W0 at *
  cases bw
  · (try simp only [Bool.false_and])
    go_enter Tryd.func52, Tryd.ntmps52
    go_wp2_with (first | (have HS0 := HST; clear HST HS0; refine wpList_store_cl rfl 105 _ _ rfl w.heap.size 0 5 _ rfl rfl rfl (CL.made w zF 105) (by show 5 ≤ 5; decide) iFd one5 ?_; intro w2 c2 k2 z2; clear z2; have kk : Keeps (fun _ => False) w w2 := ((Keeps.refl _ w).alloc _).trans' k2 (fun _ _ e => e) (fun i hi e => (by omega)); have y0 := kk.cell y0 (fun e => e); have y1 := kk.cell y1 (fun e => e); have y10 := kk.cell y10 (fun e => e); have y11 := kk.cell y11 (fun e => e); have c2 : CL w2 w.heap.size [.bool false, .bool true, .bool false, .bool false, .bool false] := c2; have x0 := c2.c 0 _ rfl; have x1 := c2.c 1 _ rfl; have x2 := c2.c 2 _ rfl; have x3 := c2.c 3 _ rfl; have x4 := c2.c 4 _ rfl) | (go_at_call 60; with_reducible (refine (hZb _ kk).mono ?_); rintro e w' ⟨rfl, rfl⟩; clear hZb))
    go_ret
    exact ⟨rfl, kk⟩
  · cases bB
    · (try simp only [Bool.false_and])
      go_enter Tryd.func52, Tryd.ntmps52
      go_wp2_with (first | (have HS0 := HST; clear HST HS0; refine wpList_store_cl rfl 105 _ _ rfl w.heap.size 0 5 _ rfl rfl rfl (CL.made w zF 105) (by show 5 ≤ 5; decide) iFd one5 ?_; intro w2 c2 k2 z2; clear z2; have kk : Keeps (fun _ => False) w w2 := ((Keeps.refl _ w).alloc _).trans' k2 (fun _ _ e => e) (fun i hi e => (by omega)); have y0 := kk.cell y0 (fun e => e); have y1 := kk.cell y1 (fun e => e); have y10 := kk.cell y10 (fun e => e); have y11 := kk.cell y11 (fun e => e); have c2 : CL w2 w.heap.size [.bool false, .bool true, .bool false, .bool false, .bool false] := c2; have x0 := c2.c 0 _ rfl; have x1 := c2.c 1 _ rfl; have x2 := c2.c 2 _ rfl; have x3 := c2.c 3 _ rfl; have x4 := c2.c 4 _ rfl) | (go_at_call 60; with_reducible (refine (hZb _ kk).mono ?_); rintro e w' ⟨rfl, rfl⟩; clear hZb))
      go_ret
      exact ⟨rfl, kk⟩
    · cases bT
      · (try simp only [Bool.false_and])
        go_enter Tryd.func52, Tryd.ntmps52
        go_wp2_with (first | (have HS0 := HST; clear HST HS0; refine wpList_store_cl rfl 105 _ _ rfl w.heap.size 0 5 _ rfl rfl rfl (CL.made w zF 105) (by show 5 ≤ 5; decide) iFd one5 ?_; intro w2 c2 k2 z2; clear z2; have kk : Keeps (fun _ => False) w w2 := ((Keeps.refl _ w).alloc _).trans' k2 (fun _ _ e => e) (fun i hi e => (by omega)); have y0 := kk.cell y0 (fun e => e); have y1 := kk.cell y1 (fun e => e); have y10 := kk.cell y10 (fun e => e); have y11 := kk.cell y11 (fun e => e); have c2 : CL w2 w.heap.size [.bool false, .bool true, .bool false, .bool false, .bool false] := c2; have x0 := c2.c 0 _ rfl; have x1 := c2.c 1 _ rfl; have x2 := c2.c 2 _ rfl; have x3 := c2.c 3 _ rfl; have x4 := c2.c 4 _ rfl) | (go_at_call 60; with_reducible (refine (hZb _ kk).mono ?_); rintro e w' ⟨rfl, rfl⟩; clear hZb))
        go_ret
        exact ⟨rfl, kk⟩
      · cases bE
        · go_enter Tryd.func52, Tryd.ntmps52
          go_wp2_with (first | (have HS0 := HST; clear HST HS0; refine wpList_store_cl rfl 105 _ _ rfl w.heap.size 0 5 _ rfl rfl rfl (CL.made w zF 105) (by show 5 ≤ 5; decide) iFd one5 ?_; intro w2 c2 k2 z2; clear z2; have kk : Keeps (fun _ => False) w w2 := ((Keeps.refl _ w).alloc _).trans' k2 (fun _ _ e => e) (fun i hi e => (by omega)); have y0 := kk.cell y0 (fun e => e); have y1 := kk.cell y1 (fun e => e); have y10 := kk.cell y10 (fun e => e); have y11 := kk.cell y11 (fun e => e); have c2 : CL w2 w.heap.size [.bool false, .bool true, .bool false, .bool false, .bool false] := c2; have x0 := c2.c 0 _ rfl; have x1 := c2.c 1 _ rfl; have x2 := c2.c 2 _ rfl; have x3 := c2.c 3 _ rfl; have x4 := c2.c 4 _ rfl) | (go_at_call 60; with_reducible (refine (hZb _ kk).mono ?_); rintro e w' ⟨rfl, rfl⟩; clear hZb))
          go_ret
          exact ⟨rfl, kk⟩
        · go_enter Tryd.func52, Tryd.ntmps52
          go_wp2_with (first | (have HS0 := HST; clear HST HS0; refine wpList_store_cl rfl 105 _ _ rfl w.heap.size 0 5 _ rfl rfl rfl (CL.made w zF 105) (by show 5 ≤ 5; decide) iFd one5 ?_; intro w2 c2 k2 z2; clear z2; have kk : Keeps (fun _ => False) w w2 := ((Keeps.refl _ w).alloc _).trans' k2 (fun _ _ e => e) (fun i hi e => (by omega)); have y0 := kk.cell y0 (fun e => e); have y1 := kk.cell y1 (fun e => e); have y10 := kk.cell y10 (fun e => e); have y11 := kk.cell y11 (fun e => e); have c2 : CL w2 w.heap.size [.bool false, .bool true, .bool false, .bool false, .bool false] := c2; have x0 := c2.c 0 _ rfl; have x1 := c2.c 1 _ rfl; have x2 := c2.c 2 _ rfl; have x3 := c2.c 3 _ rfl; have x4 := c2.c 4 _ rfl) | (go_at_call 60; with_reducible (refine (hZb _ kk).mono ?_); rintro e w' ⟨rfl, rfl⟩; clear hZb))
          go_ret
          exact ⟨rfl, kk⟩
set_option maxHeartbeats 1000000 in
set_option maxRecDepth 100000 in
theorem cbs_0 {k : Int} {w : World} {b o : Nat} {wd : Bs} {ka na : Int} {wa : Bs} {pa : Option Addr} {ma ca : Nat} {kb nb : Int} {wb : Bs} {pb : Option Addr} {mb cb : Nat} {pt : Option Addr} {mt ct : Nat} {pe : Option Addr} {me ce : Nat} (h : S12 w b o k wd ka na wa pa ma ca kb nb wb pb mb cb pt mt ct pe me ce) (hk0 : ¬ (1 ≤ k ∧ k ≤ 7)) : Calls Tryd.prog 52 #[pA b o] w fun e w' => e = .returned (.bool (okC k wd (zrC ka na wa ma) (zrC kb nb wb mb) mt me)) ∧ Keeps (fun _ => False) w w' := by
  have y0 := h.y0
  have hk : okC k wd (zrC ka na wa ma) (zrC kb nb wb mb) mt me = false := by
    unfold okC
    by_cases q : 1 ≤ k
    · rw [decide_eq_false (p := k ≤ 7) (fun q2 => hk0 ⟨q, q2⟩)]; simp
    · rw [decide_eq_false q]; simp
  rw [hk]
  clear hk
  by_cases q : k < 1
  · have d1 : decide (k < 1) = true := decide_eq_true q
    clear hk0 q
    go_enter Tryd.func52, Tryd.ntmps52
    go_wp2
    go_ret
    exact ⟨rfl, Keeps.refl _ _⟩
  · have d1 : decide (k < 1) = false := decide_eq_false q
    have d2 : decide (7 < k) = true := decide_eq_true (by omega)
    clear hk0 q
    go_enter Tryd.func52, Tryd.ntmps52
    go_wp2
    go_ret
    exact ⟨rfl, Keeps.refl _ _⟩
theorem cbs_any {k : Int} {w : World} {b o : Nat} {wd : Bs} {ka na : Int} {wa : Bs} {pa : Option Addr} {ma ca : Nat} {kb nb : Int} {wb : Bs} {pb : Option Addr} {mb cb : Nat} {pt : Option Addr} {mt ct : Nat} {pe : Option Addr} {me ce : Nat} (h : S12 w b o k wd ka na wa pa ma ca kb nb wb pb mb cb pt mt ct pe me ce) (hw : wd.length ≤ 140737488355328) (hG : SG w) : Calls Tryd.prog 52 #[pA b o] w fun e w' => e = .returned (.bool (okC k wd (zrC ka na wa ma) (zrC kb nb wb mb) mt me)) ∧ Keeps (fun _ => False) w w' := by
  by_cases h1 : k = 1
  · subst h1; exact cbs_1 h hw hG
  by_cases h2 : k = 2
  · subst h2; exact cbs_2 h hw hG
  by_cases h3 : k = 3
  · subst h3; exact cbs_3 h hw hG
  by_cases h4 : k = 4
  · subst h4; exact cbs_4 h hw hG
  by_cases h5 : k = 5
  · subst h5; exact cbs_5 h hw hG
  by_cases h6 : k = 6
  · subst h6; exact cbs_6 h hw hG
  by_cases h7 : k = 7
  · subst h7; exact cbs_7 h hw hG
  exact cbs_0 h (by omega)
end Go.Proofs.YtehblpbefkopbaaDoor
