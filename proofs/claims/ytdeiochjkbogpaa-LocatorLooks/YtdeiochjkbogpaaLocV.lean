import Derived.Test.YtdeiochjkbogpaaLocU
namespace Go.Proofs.Ytdeiochjkbogpaa
open Go.RowKit

/-- The values that the laws begin with. -/
def fv (n : Nat) : List Vl := (List.range n).map fun (i : Nat) => ⟨100 + (i : Int), 0, false⟩
theorem fv_len (n : Nat) : (fv n).length = n := by simp [fv]
theorem fv_succ (n : Nat) : fl vc3 (fv (n + 1)) = fl vc3 (fv n) ++ [.int .i64 (100 + (n : Int)), .int .i64 0, .bool false] := by simp [fv, fl, List.range_succ, vc3]
theorem own_lo {W : World} {base e z n : Nat} {v : Value} {xs : List Value} (h : W.ownsRow base e z v n xs) {g : Nat} (hg : v.ownBlock = some g) : base ≤ g := by
  rcases h.2 with ⟨h', _⟩ | ⟨g', c, cur, h', hb, _⟩
  · rw [h'] at hg; cases hg
  · rw [h'] at hg; cases hg; exact hb
theorem fresh_com (vs : List Vl) (m : Mm) : (nw vs m.cells.length vs.length).com (nm m vs.length) = vs := by
  have eo : (nw vs m.cells.length vs.length).objs.length = vs.length := by simp [nw]
  unfold Ws.com
  rw [eo]
  apply List.ext_getElem?
  intro i
  by_cases hi : i < vs.length
  · have e1 : (nw vs m.cells.length vs.length).at_ (nm m vs.length) i = i := by
      unfold Ws.at_
      rw [nw_ob _ _ hi, show (ca (nm m vs.length).cells (m.cells.length + 2 + i)).2 = (i : Int) from nm_val m hi]; simp
    have e2 : (nw vs m.cells.length vs.length).now (nm m vs.length) i = i := by
      unfold Ws.now
      rw [e1, nw_lo _ _ hi]; simp
    have e3 : (nw vs m.cells.length vs.length).value (nm m vs.length) i = vs.getD i vl0 := by
      unfold Ws.value
      rw [e2]; simp [Ws.vl, nw]
    simp only [List.getElem?_map, List.getElem?_range hi, Option.map_some, e3, ← getD_get hi]
  · rw [List.getElem?_eq_none (by simp; omega), List.getElem?_eq_none (by omega)]
/-- A memory and a raw beside it. -/
theorem raw_start {w w1 w2 : World} {ρ : Nat → Nat} {u q : Nat} (hq : q ≠ u) (M1 : MI w1 w.heap.size Mm.new [w.heap.size]) (k1 : Keeps (fun _ => False) w w1)
    (h2 : w2 = w1.alloc (.cells #[.pointer (some ⟨w.heap.size, 0, none⟩), .pointer none, .int .i64 0] 31)) :
    ∃ ρ', MJ w2 ρ' u w.heap.size Mm.new ∧ Bnd w2 ρ' ∧ ρ' w1.heap.size = q ∧ Ext (fun r => r = u ∨ r = q) w w2 ρ ρ' := by
  have lm := M1.lt _ M1.mem
  have K2 : Keeps (fun _ => False) w1 w2 := by rw [h2]; exact (Keeps.refl _ w1).alloc _
  have z2 : w2.heap.size = w1.heap.size + 1 := by rw [h2]; simp
  have x1 : Ext (fun r => r = u) w w1 ρ (ro ρ w w1 (fun k => k = w.heap.size) u) := ro_ext (k1.mono (fun _ _ e => e.elim)) rfl
  have m1 : MJ w1 (ro ρ w w1 (fun k => k = w.heap.size) u) u w.heap.size Mm.new := ⟨_, M1, fun k hk => by simp at hk; rw [hk]; exact ro_new (Nat.le_refl _) rfl lm⟩
  have x2 : Ext (fun r => r = q) w1 w2 (ro ρ w w1 (fun k => k = w.heap.size) u) (ro (ro ρ w w1 (fun k => k = w.heap.size) u) w1 w2 (fun k => k = w1.heap.size) q) := ro_ext (K2.mono (fun _ _ e => e.elim)) rfl
  exact ⟨_, m1.ext x2 (fun e => hq e.symm), ro_bnd K2.size, ro_new (Nat.le_refl _) rfl (by omega), (x1.mono (fun _ e => .inl e)).trans (x2.mono (fun _ e => .inr e))⟩
/-- The world written into the raw. -/
theorem raw_fin {w2 w3 : World} {ρ2 ρ3 : Nat → Nat} {u j q rb wb mb : Nat} {s : Ws} {m : Mm} (S3 : St w3 ρ3 u j wb mb s m) (x3 : Ext (Sr u j) w2 w3 ρ2 ρ3) (rr : ρ2 rb = q) (q0 : q ≠ 0) (qs : ¬ Sr u j q) (lt : rb < w2.heap.size)
    (c0 : w2.cell? ⟨rb, 0, none⟩ = some (.pointer (some ⟨mb, 0, none⟩))) (c1 : w2.cell? ⟨rb, 1, none⟩ = some (.pointer none)) (c2 : w2.cell? ⟨rb, 2, none⟩ = some (.int .i64 0)) (z : w2.frozen? ⟨rb, 2, none⟩ = false) (iv : Inv s m) (bs : m.begun = false) (lg : m.log.length + (if m.free then 1 else 0) = 0) :
    Rs (w3.setCell ⟨rb, 1, none⟩ (.pointer (some ⟨wb, 0, none⟩))) ρ3 u j q rb wb mb s m 0 ∧ Ext (Sq u j q) w2 (w3.setCell ⟨rb, 1, none⟩ (.pointer (some ⟨wb, 0, none⟩))) ρ2 ρ3 := by
  have n : ¬ Sr u j (ρ2 rb) := by rw [rr]; exact qs
  have rr' := (x3.old rb lt).trans rr
  have K := keeps_set w3 rb 1 (.pointer (some ⟨wb, 0, none⟩))
  have y : Ext (fun r => r = q) w3 (w3.setCell ⟨rb, 1, none⟩ (.pointer (some ⟨wb, 0, none⟩))) ρ3 ρ3 := ⟨K.mono (fun i _ e => by subst e; exact rr'), fun _ _ => rfl, fun i hi => .inr (S3.bnd i hi)⟩
  have o : ∀ i v, i ≠ 1 → w3.cell? ⟨rb, i, none⟩ = some v → (w3.setCell ⟨rb, 1, none⟩ (.pointer (some ⟨wb, 0, none⟩))).cell? ⟨rb, i, none⟩ = some v := fun i v hi hv => by
    rw [World.cell?_setCell_other _ _ _ _ (fun e => by cases e; exact hi rfl)]; exact hv
  exact ⟨⟨⟨fun i hi => S3.bnd i (Nat.le_trans K.size hi), S3.mj.ext y (fun e => qs (.inl e.symm)), S3.wj.ext y (fun r h1 h2 e => qs (.inr (by omega))), S3.u0, S3.j0, S3.ap⟩, o _ _ (by decide) (x3.cell c0 n), World.cell?_setCell_same _ _ _ (x3.cell c1 n), o _ _ (by decide) (x3.cell c2 n), by rw [World.frozen?_setCell]; exact (x3.keeps.frozen (p := ⟨rb, 2, none⟩) lt n).trans z, rr', q0, qs, iv, fun e => (by rw [bs] at e; cases e), by omega⟩, (x3.mono (fun _ e => .inl e)).trans (y.mono (fun _ e => .inr e))⟩

theorem va_vl {w : World} {ρ : Nat → Nat} {a : Option Addr} {vs : List Vl} (h : VA w a vs) (hr : ∀ g o, a = some ⟨g, o, none⟩ → ρ g = 0) : VL w ρ a vs := h.imp id (fun ⟨b, off, e, h⟩ => ⟨b, off, e, hr b off e, h⟩)
theorem vl_va {w : World} {ρ : Nat → Nat} {a : Option Addr} {vs : List Vl} (h : VL w ρ a vs) : VA w a vs := h.imp id (fun ⟨b, off, e, _, h⟩ => ⟨b, off, e, h⟩)
theorem reqn (rb : Nat) : ∀ w : World, (binOp .eql 24 (.pointer (some ⟨rb, 0, none⟩)) (.pointer none)).run Try.prog w = .ok (.bool false) w := fun w => by kernel_rfl
set_option maxHeartbeats 1600000 in
set_option maxRecDepth 1000000 in
theorem fresh_lo {w : World} {ρ : Nat → Nat} {u j q : Nat} (hb : Hid (Bnd w ρ)) (hu : u ≠ 0) (hj : j ≠ 0) (hq : q ≠ 0) (hap : ¬ (j ≤ u ∧ u < j + 5)) (hqs : ¬ Sr u j q) {n : Int} (hn : n < 1) :
    Calls Try.prog 5 #[.int .i64 n] w fun e w' => ∃ rb wb mb ρ', e = .returned (.pointer (some ⟨rb, 0, none⟩)) ∧ Rs w' ρ' u j q rb wb mb (nw (fv 1) 0 1) (nm Mm.new 1) 0 ∧ Ext (Sq u j q) w w' ρ ρ' := by
  obtain ⟨i0, hi0, hz0, hz1, hz2⟩ := info_parts infoV'
  have hqu : q ≠ u := fun e => hqs (.inl e)
  have d1 : decide (n < 1) = true := decide_eq_true hn
  go_enter Try.func5, Try.ntmps5
  go_wp2_with fail
  go_loopw [3, 4] (fun sv iv wr => ∃ i : Nat, i ≤ 1 ∧ iv = .int .i64 (i : Int) ∧ wr.ownsRow w.heap.size 52 3 sv i (fl vc3 (fv i)) ∧ Keeps (fun _ => False) w wr) (fun _ iv _ => 1 - (intOf iv).toNat)
  case atStart => exact ⟨0, Nat.zero_le _, rfl, World.ownsRow_nil _ _ _ _, Keeps.refl _ w⟩
  case round =>
    obtain ⟨i, hi, rfl, own, hk⟩ := hrel
    obtain ⟨a, cap, e1, hVA, hgs⟩ := va_own own (fv_len i)
    subst e1
    by_cases hlt : i < 1
    · have hltI : (i : Int) < 1 := by omega
      have HO : Hid (wr.ownsRow w.heap.size 52 3 (.slice a i cap) i (fl vc3 (fv i))) := own
      have hby : (i + 1) * 24 ≤ 140737488355328 := by omega
      have h63 : i + 1 ≤ maxLen := by unfold maxLen; omega
      have ws := hk.size
      clear own hVA hgs
      go_wp2_with ((at_builtin; refine wpList_append_lies _ rfl _ _ _ rfl w.heap.size 52 i0 _ 3 24 underV hi0 hz0 hz1 hz2 rfl (by decide) (.slice a i cap) i (fl vc3 (fv i)) rfl (HO.out.alloc _) ⟨wr.heap.size, 0, none⟩ 1 1 [.int .i64 (100 + (i : Int)), .int .i64 0, .bool false] rfl rfl (World.news_of_block (cs := #[.int .i64 (100 + (i : Int)), .int .i64 0, .bool false]) (t := 52) (fr := (0, 0)) (heap_alloc_new wr _)) (by simp [Value.oneCell']) (by omega) h63 hby (by simp; omega) _ rfl ?_))
      intro gg cap1 w4 hown1 hgrow hat hlt1
      rw [← fv_succ] at hown1
      have K4 : Keeps (fun _ => False) w w4 := (hk.alloc _).trans' ((Keeps.refl _ _).grown hgrow (S := fun k => (Value.slice a i cap).ownBlock = some k) (fun _ _ e => e)) (fun _ _ e => e) (fun x hx e => by have := own_lo HO.out e; omega)
      clear hgrow hat hlt1
      go_wp2_with fail
      go_roundw
      case rel => exact ⟨i + 1, by omega, by go_num, hown1, K4⟩
      case measure => simp [intOf]; omega
    · have hltI : ¬ (i : Int) < 1 := by omega
      obtain rfl : i = 1 := by omega
      have VLr : Hid (VL wr ρ a (fv 1)) := va_vl hVA (fun g o e => hb.out g (hgs g o e).1)
      have hb0 : True := trivial
      have hsame : ∀ (W : World) {a b : Option Addr}, VA W a (fv 1) → VA W b (fv 1) → ∀ ca cb : Nat, Calls Try.prog 9 #[.slice a 1 ca, .slice b 1 cb] W fun e w' => e = .returned (.bool true) ∧ Keeps (fun _ => False) W w' := fun W a b h1 h2 ca cb => by
        have := same_eq h1 h2 (by rw [fv_len]; omega) ca cb
        rw [fv_len] at this; exact this
      have hp := peq wr.heap.size
      clear hb0 own
      go_wp2_with fail
      refine (new_any wr).mono ?_
      rintro e w1 ⟨rfl, M1, k1⟩
      obtain ⟨w2, hw2⟩ : ∃ w2, w2 = w1.alloc (.cells #[.pointer (some ⟨wr.heap.size, 0, none⟩), .pointer none, .int .i64 0] 31) := ⟨_, rfl⟩
      obtain ⟨ρ2, J2, B2, rr2, x2⟩ := raw_start (ρ := ρ) (u := u) (q := q) hqu M1 k1 hw2
      have d0 : w2.cell? ⟨w1.heap.size, 0, none⟩ = some (.pointer (some ⟨wr.heap.size, 0, none⟩)) := by rw [hw2]; simp
      have d1' : w2.cell? ⟨w1.heap.size, 1, none⟩ = some (.pointer none) := by rw [hw2]; simp
      have d2' : w2.cell? ⟨w1.heap.size, 2, none⟩ = some (.int .i64 0) := by rw [hw2]; simp
      have dz : ∀ o, w2.frozen? ⟨w1.heap.size, o, none⟩ = false := by intro o; rw [hw2]; simp
      have dl : w1.heap.size < w2.heap.size := by rw [hw2]; simp
      have VL2 : VL w2 ρ2 a (fv 1) := VLr.out.ext x2 (fun e => e.elim (fun e => hu e.symm) (fun e => hq e.symm))
      have hN := New_ok (j := j) J2 hu hj hap VL2 cap (by rw [fv_len]; omega) (by rw [fv_len]; omega) (by rw [fv_len]; show 0 + 2 + 1 ≤ 65536; omega)
      rw [fv_len] at hN
      have hN' : Calls Try.prog 11 #[.pointer (some ⟨wr.heap.size, 0, none⟩), .slice a 1 cap] w2 fun e w' => e = .returned (.tuple #[.pointer (some ⟨w2.heap.size, 0, none⟩), .int .i64 0]) ∧ ∃ ρ', St w' ρ' u j w2.heap.size wr.heap.size (nw (fv 1) 0 1) (nm Mm.new 1) ∧ Ext (Sr u j) w2 w' ρ2 ρ' := hN
      have hq2 := weq w2.heap.size
      have hrq := reqn w1.heap.size
      have X2 : Ext (Sq u j q) w w2 ρ ρ2 := (Ext.alloc hb.out hk).1.trans (x2.mono (fun _ e => e.elim (fun e => .inl (.inl e)) .inr))
      have HX2 : Hid (Ext (Sq u j q) w w2 ρ ρ2) := X2
      have HV2 : Hid (VL w2 ρ2 a (fv 1)) := VL2
      clear hN J2 B2 x2 M1 k1 X2 VL2 VLr hk
      generalize hMB : wr.heap.size = mb at *
      generalize hRB : w1.heap.size = rb at *
      generalize hWB : w2.heap.size = wb at *
      go_wp2_with fail
      rw [← hw2]
      refine hN'.mono ?_
      clear hN' hw2
      rintro e w3 ⟨rfl, ρ3, S3, x3⟩
      have nr : ¬ Sr u j (ρ2 rb) := by rw [rr2]; exact hqs
      obtain ⟨R4, y4⟩ := raw_fin S3 x3 rr2 hq hqs (by omega) d0 d1' d2' (dz 2) (by have := inv_nw (fv 1) Mm.new (by rw [fv_len]; omega) (by rw [fv_len]; omega); rw [fv_len] at this; exact this) rfl rfl
      have g0 := x3.cell d0 nr
      have g1 := x3.cell d1' nr
      have gz := (x3.keeps.frozen (p := ⟨rb, 1, none⟩) (by show rb < w2.heap.size; omega) nr).trans (dz 1)
      obtain ⟨w4, hw4⟩ : ∃ w4, w4 = w3.setCell ⟨rb, 1, none⟩ (.pointer (some ⟨wb, 0, none⟩)) := ⟨_, rfl⟩
      rw [← hw4] at R4 y4
      have V4 := HV2.out.ext y4 R4.not0
      have hO := objects_any R4.st
      have hC := com_any R4.st R4.iv.wf
      have ec : (nw (fv 1) 0 1).com (nm Mm.new 1) = fv 1 := by have := fresh_com (fv 1) Mm.new; rw [fv_len] at this; exact this
      have eo : (nw (fv 1) 0 1).objs.length = 1 := by simp [nw]
      rw [ec, eo] at hC
      rw [eo] at hO
      have F4 : Hid (Rs w4 ρ3 u j q rb wb mb (nw (fv 1) 0 1) (nm Mm.new 1) 0) := R4
      have HY : Hid (Ext (Sq u j q) w w4 ρ ρ3) := HX2.out.trans y4
      have HV4 : Hid (VL w4 ρ3 a (fv 1)) := V4
      clear S3 x3 R4 y4 V4 HX2 HV2 d0 d1' d2' dz ec eo
      go_wp2_with (first | (go_at_call 12; refine (num_of _ _).mono ?_; rintro e w' ⟨rfl, rfl⟩) | (rw [← hw4]; clear hw4 g0 g1 gz; go_at_call 19; refine hO.mono ?_; clear hO; rintro e w' ⟨rfl, rfl⟩) | (go_at_call 6; refine hC.mono ?_; clear hC; rintro e w5 ⟨rfl, o5, k5⟩; obtain ⟨ac5, cc5, e5, va5, _⟩ := va_own o5 (fv_len 1); obtain ⟨rfl, _, rfl⟩ : ac5 = some ⟨_, 0, none⟩ ∧ True ∧ cc5 = 1 := by (injection e5 with q1 q2 q3; exact ⟨q1.symm, trivial, q3.symm⟩)) | (go_at_call 9; refine (hsame _ va5 (vl_va (HV4.out.ext (Ext.alloc (S := fun _ => False) F4.out.st.bnd k5).1 (fun e => e))) _ _).mono ?_; rintro e w6 ⟨rfl, k6⟩))
      go_ret
      obtain ⟨R6, y6⟩ := F4.out.new (k5.trans k6)
      exact ⟨rb, wb, mb, ρ3, rfl, R6, HY.out.trans y6⟩
set_option maxHeartbeats 1600000 in
set_option maxRecDepth 1000000 in
theorem fresh_hi {w : World} {ρ : Nat → Nat} {u j q : Nat} (hb : Hid (Bnd w ρ)) (hu : u ≠ 0) (hj : j ≠ 0) (hq : q ≠ 0) (hap : ¬ (j ≤ u ∧ u < j + 5)) (hqs : ¬ Sr u j q) {n : Int} (hn : 80 < n) :
    Calls Try.prog 5 #[.int .i64 n] w fun e w' => ∃ rb wb mb ρ', e = .returned (.pointer (some ⟨rb, 0, none⟩)) ∧ Rs w' ρ' u j q rb wb mb (nw (fv 80) 0 80) (nm Mm.new 80) 0 ∧ Ext (Sq u j q) w w' ρ ρ' := by
  obtain ⟨i0, hi0, hz0, hz1, hz2⟩ := info_parts infoV'
  have hqu : q ≠ u := fun e => hqs (.inl e)
  have d1 : decide (n < 1) = false := decide_eq_false (by omega)
  have d2 : decide (80 < n) = true := decide_eq_true hn
  go_enter Try.func5, Try.ntmps5
  go_wp2_with fail
  go_loopw [3, 4] (fun sv iv wr => ∃ i : Nat, i ≤ 80 ∧ iv = .int .i64 (i : Int) ∧ wr.ownsRow w.heap.size 52 3 sv i (fl vc3 (fv i)) ∧ Keeps (fun _ => False) w wr) (fun _ iv _ => 80 - (intOf iv).toNat)
  case atStart => exact ⟨0, Nat.zero_le _, rfl, World.ownsRow_nil _ _ _ _, Keeps.refl _ w⟩
  case round =>
    obtain ⟨i, hi, rfl, own, hk⟩ := hrel
    obtain ⟨a, cap, e1, hVA, hgs⟩ := va_own own (fv_len i)
    subst e1
    by_cases hlt : i < 80
    · have hltI : (i : Int) < 80 := by omega
      have HO : Hid (wr.ownsRow w.heap.size 52 3 (.slice a i cap) i (fl vc3 (fv i))) := own
      have hby : (i + 1) * 24 ≤ 140737488355328 := by omega
      have h63 : i + 1 ≤ maxLen := by unfold maxLen; omega
      have ws := hk.size
      clear own hVA hgs
      go_wp2_with ((at_builtin; refine wpList_append_lies _ rfl _ _ _ rfl w.heap.size 52 i0 _ 3 24 underV hi0 hz0 hz1 hz2 rfl (by decide) (.slice a i cap) i (fl vc3 (fv i)) rfl (HO.out.alloc _) ⟨wr.heap.size, 0, none⟩ 1 1 [.int .i64 (100 + (i : Int)), .int .i64 0, .bool false] rfl rfl (World.news_of_block (cs := #[.int .i64 (100 + (i : Int)), .int .i64 0, .bool false]) (t := 52) (fr := (0, 0)) (heap_alloc_new wr _)) (by simp [Value.oneCell']) (by omega) h63 hby (by simp; omega) _ rfl ?_))
      intro gg cap1 w4 hown1 hgrow hat hlt1
      rw [← fv_succ] at hown1
      have K4 : Keeps (fun _ => False) w w4 := (hk.alloc _).trans' ((Keeps.refl _ _).grown hgrow (S := fun k => (Value.slice a i cap).ownBlock = some k) (fun _ _ e => e)) (fun _ _ e => e) (fun x hx e => by have := own_lo HO.out e; omega)
      clear hgrow hat hlt1
      go_wp2_with fail
      go_roundw
      case rel => exact ⟨i + 1, by omega, by go_num, hown1, K4⟩
      case measure => simp [intOf]; omega
    · have hltI : ¬ (i : Int) < 80 := by omega
      obtain rfl : i = 80 := by omega
      have VLr : Hid (VL wr ρ a (fv 80)) := va_vl hVA (fun g o e => hb.out g (hgs g o e).1)
      have hb0 : True := trivial
      have hsame : ∀ (W : World) {a b : Option Addr}, VA W a (fv 80) → VA W b (fv 80) → ∀ ca cb : Nat, Calls Try.prog 9 #[.slice a 80 ca, .slice b 80 cb] W fun e w' => e = .returned (.bool true) ∧ Keeps (fun _ => False) W w' := fun W a b h1 h2 ca cb => by
        have := same_eq h1 h2 (by rw [fv_len]; omega) ca cb
        rw [fv_len] at this; exact this
      have hp := peq wr.heap.size
      clear hb0 own
      go_wp2_with fail
      refine (new_any wr).mono ?_
      rintro e w1 ⟨rfl, M1, k1⟩
      obtain ⟨w2, hw2⟩ : ∃ w2, w2 = w1.alloc (.cells #[.pointer (some ⟨wr.heap.size, 0, none⟩), .pointer none, .int .i64 0] 31) := ⟨_, rfl⟩
      obtain ⟨ρ2, J2, B2, rr2, x2⟩ := raw_start (ρ := ρ) (u := u) (q := q) hqu M1 k1 hw2
      have d0 : w2.cell? ⟨w1.heap.size, 0, none⟩ = some (.pointer (some ⟨wr.heap.size, 0, none⟩)) := by rw [hw2]; simp
      have d1' : w2.cell? ⟨w1.heap.size, 1, none⟩ = some (.pointer none) := by rw [hw2]; simp
      have d2' : w2.cell? ⟨w1.heap.size, 2, none⟩ = some (.int .i64 0) := by rw [hw2]; simp
      have dz : ∀ o, w2.frozen? ⟨w1.heap.size, o, none⟩ = false := by intro o; rw [hw2]; simp
      have dl : w1.heap.size < w2.heap.size := by rw [hw2]; simp
      have VL2 : VL w2 ρ2 a (fv 80) := VLr.out.ext x2 (fun e => e.elim (fun e => hu e.symm) (fun e => hq e.symm))
      have hN := New_ok (j := j) J2 hu hj hap VL2 cap (by rw [fv_len]; omega) (by rw [fv_len]; omega) (by rw [fv_len]; show 0 + 2 + 80 ≤ 65536; omega)
      rw [fv_len] at hN
      have hN' : Calls Try.prog 11 #[.pointer (some ⟨wr.heap.size, 0, none⟩), .slice a 80 cap] w2 fun e w' => e = .returned (.tuple #[.pointer (some ⟨w2.heap.size, 0, none⟩), .int .i64 0]) ∧ ∃ ρ', St w' ρ' u j w2.heap.size wr.heap.size (nw (fv 80) 0 80) (nm Mm.new 80) ∧ Ext (Sr u j) w2 w' ρ2 ρ' := hN
      have hq2 := weq w2.heap.size
      have hrq := reqn w1.heap.size
      have X2 : Ext (Sq u j q) w w2 ρ ρ2 := (Ext.alloc hb.out hk).1.trans (x2.mono (fun _ e => e.elim (fun e => .inl (.inl e)) .inr))
      have HX2 : Hid (Ext (Sq u j q) w w2 ρ ρ2) := X2
      have HV2 : Hid (VL w2 ρ2 a (fv 80)) := VL2
      clear hN J2 B2 x2 M1 k1 X2 VL2 VLr hk
      generalize hMB : wr.heap.size = mb at *
      generalize hRB : w1.heap.size = rb at *
      generalize hWB : w2.heap.size = wb at *
      go_wp2_with fail
      rw [← hw2]
      refine hN'.mono ?_
      clear hN' hw2
      rintro e w3 ⟨rfl, ρ3, S3, x3⟩
      have nr : ¬ Sr u j (ρ2 rb) := by rw [rr2]; exact hqs
      obtain ⟨R4, y4⟩ := raw_fin S3 x3 rr2 hq hqs (by omega) d0 d1' d2' (dz 2) (by have := inv_nw (fv 80) Mm.new (by rw [fv_len]; omega) (by rw [fv_len]; omega); rw [fv_len] at this; exact this) rfl rfl
      have g0 := x3.cell d0 nr
      have g1 := x3.cell d1' nr
      have gz := (x3.keeps.frozen (p := ⟨rb, 1, none⟩) (by show rb < w2.heap.size; omega) nr).trans (dz 1)
      obtain ⟨w4, hw4⟩ : ∃ w4, w4 = w3.setCell ⟨rb, 1, none⟩ (.pointer (some ⟨wb, 0, none⟩)) := ⟨_, rfl⟩
      rw [← hw4] at R4 y4
      have V4 := HV2.out.ext y4 R4.not0
      have hO := objects_any R4.st
      have hC := com_any R4.st R4.iv.wf
      have ec : (nw (fv 80) 0 80).com (nm Mm.new 80) = fv 80 := by have := fresh_com (fv 80) Mm.new; rw [fv_len] at this; exact this
      have eo : (nw (fv 80) 0 80).objs.length = 80 := by simp [nw]
      rw [ec, eo] at hC
      rw [eo] at hO
      have F4 : Hid (Rs w4 ρ3 u j q rb wb mb (nw (fv 80) 0 80) (nm Mm.new 80) 0) := R4
      have HY : Hid (Ext (Sq u j q) w w4 ρ ρ3) := HX2.out.trans y4
      have HV4 : Hid (VL w4 ρ3 a (fv 80)) := V4
      clear S3 x3 R4 y4 V4 HX2 HV2 d0 d1' d2' dz ec eo
      go_wp2_with (first | (go_at_call 12; refine (num_of _ _).mono ?_; rintro e w' ⟨rfl, rfl⟩) | (rw [← hw4]; clear hw4 g0 g1 gz; go_at_call 19; refine hO.mono ?_; clear hO; rintro e w' ⟨rfl, rfl⟩) | (go_at_call 6; refine hC.mono ?_; clear hC; rintro e w5 ⟨rfl, o5, k5⟩; obtain ⟨ac5, cc5, e5, va5, _⟩ := va_own o5 (fv_len 80); obtain ⟨rfl, _, rfl⟩ : ac5 = some ⟨_, 0, none⟩ ∧ True ∧ cc5 = 80 := by (injection e5 with q1 q2 q3; exact ⟨q1.symm, trivial, q3.symm⟩)) | (go_at_call 9; refine (hsame _ va5 (vl_va (HV4.out.ext (Ext.alloc (S := fun _ => False) F4.out.st.bnd k5).1 (fun e => e))) _ _).mono ?_; rintro e w6 ⟨rfl, k6⟩))
      go_ret
      obtain ⟨R6, y6⟩ := F4.out.new (k5.trans k6)
      exact ⟨rb, wb, mb, ρ3, rfl, R6, HY.out.trans y6⟩
set_option maxHeartbeats 1600000 in
set_option maxRecDepth 1000000 in
theorem fresh_mid {w : World} {ρ : Nat → Nat} {u j q : Nat} (hb : Hid (Bnd w ρ)) (hu : u ≠ 0) (hj : j ≠ 0) (hq : q ≠ 0) (hap : ¬ (j ≤ u ∧ u < j + 5)) (hqs : ¬ Sr u j q) {c : Nat} (h1 : 1 ≤ c) (h80 : c ≤ 80) :
    Calls Try.prog 5 #[.int .i64 (c : Int)] w fun e w' => ∃ rb wb mb ρ', e = .returned (.pointer (some ⟨rb, 0, none⟩)) ∧ Rs w' ρ' u j q rb wb mb (nw (fv c) 0 c) (nm Mm.new c) 0 ∧ Ext (Sq u j q) w w' ρ ρ' := by
  obtain ⟨i0, hi0, hz0, hz1, hz2⟩ := info_parts infoV'
  have hqu : q ≠ u := fun e => hqs (.inl e)
  have d1 : decide ((c : Int) < 1) = false := decide_eq_false (by omega)
  have d2 : decide ((80 : Int) < (c : Int)) = false := decide_eq_false (by omega)
  have d3 : decide (80 < c) = false := decide_eq_false (by omega)
  have d4 : decide (c < 1) = false := decide_eq_false (by omega)
  go_enter Try.func5, Try.ntmps5
  go_wp2_with fail
  go_loopw [3, 4] (fun sv iv wr => ∃ i : Nat, i ≤ c ∧ iv = .int .i64 (i : Int) ∧ wr.ownsRow w.heap.size 52 3 sv i (fl vc3 (fv i)) ∧ Keeps (fun _ => False) w wr) (fun _ iv _ => c - (intOf iv).toNat)
  case atStart => exact ⟨0, Nat.zero_le _, rfl, World.ownsRow_nil _ _ _ _, Keeps.refl _ w⟩
  case round =>
    obtain ⟨i, hi, rfl, own, hk⟩ := hrel
    obtain ⟨a, cap, e1, hVA, hgs⟩ := va_own own (fv_len i)
    subst e1
    by_cases hlt : i < c
    · have hltI : (i : Int) < (c : Int) := by omega
      have HO : Hid (wr.ownsRow w.heap.size 52 3 (.slice a i cap) i (fl vc3 (fv i))) := own
      have hby : (i + 1) * 24 ≤ 140737488355328 := by omega
      have h63 : i + 1 ≤ maxLen := by unfold maxLen; omega
      have ws := hk.size
      clear own hVA hgs
      go_wp2_with ((at_builtin; refine wpList_append_lies _ rfl _ _ _ rfl w.heap.size 52 i0 _ 3 24 underV hi0 hz0 hz1 hz2 rfl (by decide) (.slice a i cap) i (fl vc3 (fv i)) rfl (HO.out.alloc _) ⟨wr.heap.size, 0, none⟩ 1 1 [.int .i64 (100 + (i : Int)), .int .i64 0, .bool false] rfl rfl (World.news_of_block (cs := #[.int .i64 (100 + (i : Int)), .int .i64 0, .bool false]) (t := 52) (fr := (0, 0)) (heap_alloc_new wr _)) (by simp [Value.oneCell']) (by omega) h63 hby (by simp; omega) _ rfl ?_))
      intro gg cap1 w4 hown1 hgrow hat hlt1
      rw [← fv_succ] at hown1
      have K4 : Keeps (fun _ => False) w w4 := (hk.alloc _).trans' ((Keeps.refl _ _).grown hgrow (S := fun k => (Value.slice a i cap).ownBlock = some k) (fun _ _ e => e)) (fun _ _ e => e) (fun x hx e => by have := own_lo HO.out e; omega)
      clear hgrow hat hlt1
      go_wp2_with fail
      go_roundw
      case rel => exact ⟨i + 1, by omega, by go_num, hown1, K4⟩
      case measure => simp [intOf]; omega
    · have hltI : ¬ (i : Int) < (c : Int) := by omega
      obtain rfl : c = i := by omega
      have VLr : Hid (VL wr ρ a (fv c)) := va_vl hVA (fun g o e => hb.out g (hgs g o e).1)
      have hb0 : True := trivial
      have hsame : ∀ (W : World) {a b : Option Addr}, VA W a (fv c) → VA W b (fv c) → ∀ ca cb : Nat, Calls Try.prog 9 #[.slice a c ca, .slice b c cb] W fun e w' => e = .returned (.bool true) ∧ Keeps (fun _ => False) W w' := fun W a b h1 h2 ca cb => by
        have := same_eq h1 h2 (by rw [fv_len]; omega) ca cb
        rw [fv_len] at this; exact this
      have hp := peq wr.heap.size
      clear hb0 own
      go_wp2_with fail
      refine (new_any wr).mono ?_
      rintro e w1 ⟨rfl, M1, k1⟩
      obtain ⟨w2, hw2⟩ : ∃ w2, w2 = w1.alloc (.cells #[.pointer (some ⟨wr.heap.size, 0, none⟩), .pointer none, .int .i64 0] 31) := ⟨_, rfl⟩
      obtain ⟨ρ2, J2, B2, rr2, x2⟩ := raw_start (ρ := ρ) (u := u) (q := q) hqu M1 k1 hw2
      have d0 : w2.cell? ⟨w1.heap.size, 0, none⟩ = some (.pointer (some ⟨wr.heap.size, 0, none⟩)) := by rw [hw2]; simp
      have d1' : w2.cell? ⟨w1.heap.size, 1, none⟩ = some (.pointer none) := by rw [hw2]; simp
      have d2' : w2.cell? ⟨w1.heap.size, 2, none⟩ = some (.int .i64 0) := by rw [hw2]; simp
      have dz : ∀ o, w2.frozen? ⟨w1.heap.size, o, none⟩ = false := by intro o; rw [hw2]; simp
      have dl : w1.heap.size < w2.heap.size := by rw [hw2]; simp
      have VL2 : VL w2 ρ2 a (fv c) := VLr.out.ext x2 (fun e => e.elim (fun e => hu e.symm) (fun e => hq e.symm))
      have hN := New_ok (j := j) J2 hu hj hap VL2 cap (by rw [fv_len]; omega) (by rw [fv_len]; omega) (by rw [fv_len]; show 0 + 2 + c ≤ 65536; omega)
      rw [fv_len] at hN
      have hN' : Calls Try.prog 11 #[.pointer (some ⟨wr.heap.size, 0, none⟩), .slice a c cap] w2 fun e w' => e = .returned (.tuple #[.pointer (some ⟨w2.heap.size, 0, none⟩), .int .i64 0]) ∧ ∃ ρ', St w' ρ' u j w2.heap.size wr.heap.size (nw (fv c) 0 c) (nm Mm.new c) ∧ Ext (Sr u j) w2 w' ρ2 ρ' := hN
      have hq2 := weq w2.heap.size
      have hrq := reqn w1.heap.size
      have X2 : Ext (Sq u j q) w w2 ρ ρ2 := (Ext.alloc hb.out hk).1.trans (x2.mono (fun _ e => e.elim (fun e => .inl (.inl e)) .inr))
      have HX2 : Hid (Ext (Sq u j q) w w2 ρ ρ2) := X2
      have HV2 : Hid (VL w2 ρ2 a (fv c)) := VL2
      clear hN J2 B2 x2 M1 k1 X2 VL2 VLr hk
      generalize hMB : wr.heap.size = mb at *
      generalize hRB : w1.heap.size = rb at *
      generalize hWB : w2.heap.size = wb at *
      go_wp2_with fail
      rw [← hw2]
      refine hN'.mono ?_
      clear hN' hw2
      rintro e w3 ⟨rfl, ρ3, S3, x3⟩
      have nr : ¬ Sr u j (ρ2 rb) := by rw [rr2]; exact hqs
      obtain ⟨R4, y4⟩ := raw_fin S3 x3 rr2 hq hqs (by omega) d0 d1' d2' (dz 2) (by have := inv_nw (fv c) Mm.new (by rw [fv_len]; omega) (by rw [fv_len]; omega); rw [fv_len] at this; exact this) rfl rfl
      have g0 := x3.cell d0 nr
      have g1 := x3.cell d1' nr
      have gz := (x3.keeps.frozen (p := ⟨rb, 1, none⟩) (by show rb < w2.heap.size; omega) nr).trans (dz 1)
      obtain ⟨w4, hw4⟩ : ∃ w4, w4 = w3.setCell ⟨rb, 1, none⟩ (.pointer (some ⟨wb, 0, none⟩)) := ⟨_, rfl⟩
      rw [← hw4] at R4 y4
      have V4 := HV2.out.ext y4 R4.not0
      have hO := objects_any R4.st
      have hC := com_any R4.st R4.iv.wf
      have ec : (nw (fv c) 0 c).com (nm Mm.new c) = fv c := by have := fresh_com (fv c) Mm.new; rw [fv_len] at this; exact this
      have eo : (nw (fv c) 0 c).objs.length = c := by simp [nw]
      rw [ec, eo] at hC
      rw [eo] at hO
      have F4 : Hid (Rs w4 ρ3 u j q rb wb mb (nw (fv c) 0 c) (nm Mm.new c) 0) := R4
      have HY : Hid (Ext (Sq u j q) w w4 ρ ρ3) := HX2.out.trans y4
      have HV4 : Hid (VL w4 ρ3 a (fv c)) := V4
      clear S3 x3 R4 y4 V4 HX2 HV2 d0 d1' d2' dz ec eo
      go_wp2_with (first | (go_at_call 12; refine (num_of _ _).mono ?_; rintro e w' ⟨rfl, rfl⟩) | (rw [← hw4]; clear hw4 g0 g1 gz; go_at_call 19; refine hO.mono ?_; clear hO; rintro e w' ⟨rfl, rfl⟩) | (go_at_call 6; refine hC.mono ?_; clear hC; rintro e w5 ⟨rfl, o5, k5⟩; obtain ⟨ac5, cc5, e5, va5, _⟩ := va_own o5 (fv_len c); obtain ⟨rfl, _, rfl⟩ : ac5 = some ⟨_, 0, none⟩ ∧ True ∧ cc5 = c := by (injection e5 with q1 q2 q3; exact ⟨q1.symm, trivial, q3.symm⟩)) | (go_at_call 9; refine (hsame _ va5 (vl_va (HV4.out.ext (Ext.alloc (S := fun _ => False) F4.out.st.bnd k5).1 (fun e => e))) _ _).mono ?_; rintro e w6 ⟨rfl, k6⟩))
      go_ret
      obtain ⟨R6, y6⟩ := F4.out.new (k5.trans k6)
      exact ⟨rb, wb, mb, ρ3, rfl, R6, HY.out.trans y6⟩
theorem fresh_any {w : World} {ρ : Nat → Nat} {u j q : Nat} (hb : Bnd w ρ) (hu : u ≠ 0) (hj : j ≠ 0) (hq : q ≠ 0) (hap : ¬ (j ≤ u ∧ u < j + 5)) (hqs : ¬ Sr u j q) (n : Int) :
    Calls Try.prog 5 #[.int .i64 n] w fun e w' => ∃ c rb wb mb ρ', (1 ≤ c ∧ c ≤ 80) ∧ e = .returned (.pointer (some ⟨rb, 0, none⟩)) ∧ Rs w' ρ' u j q rb wb mb (nw (fv c) 0 c) (nm Mm.new c) 0 ∧ Ext (Sq u j q) w w' ρ ρ' := by
  rcases Int.lt_or_le n 1 with h | h
  · refine (fresh_lo hb hu hj hq hap hqs h).mono ?_
    rintro e w' ⟨rb, wb, mb, ρ', h1, h2, h3⟩
    exact ⟨1, rb, wb, mb, ρ', by decide, h1, h2, h3⟩
  · rcases Int.lt_or_le 80 n with h' | h'
    · refine (fresh_hi hb hu hj hq hap hqs h').mono ?_
      rintro e w' ⟨rb, wb, mb, ρ', h1, h2, h3⟩
      exact ⟨80, rb, wb, mb, ρ', by decide, h1, h2, h3⟩
    · obtain ⟨c, rfl⟩ : ∃ c : Nat, n = c := ⟨n.toNat, by omega⟩
      refine (fresh_mid hb hu hj hq hap hqs (by omega) (by omega)).mono ?_
      rintro e w' ⟨rb, wb, mb, ρ', h1, h2, h3⟩
      exact ⟨c, rb, wb, mb, ρ', by omega, h1, h2, h3⟩
end Go.Proofs.Ytdeiochjkbogpaa
