import Derived.Test.YtpdhjokbhofglaaStC
import Derived.BigRegion
import Derived.BigQuiet
namespace Go.Proofs.Ytpdhjokbhofglaa
open Go.RowKit Go.Shelf
attribute [local go_sem] Oper.semAt_some

set_option maxHeartbeats 6400000 in
set_option maxRecDepth 1000000 in
theorem stops_walk {w : World} {a : Option Addr} {l : List Ac} (hA : AL w a l) (_ : ∀ q ∈ l, q.ok) (hln : l.length ≤ 1048576) (cap : Nat) (fm lv ag : Int) :
    CallsIn Fence.wide 6 Try.prog 3 #[.slice a l.length cap, .int .i64 fm, .int .i64 lv, .int .i64 ag] w fun e w' => e = .returned (.bool true) ∧ Below w.heap.size w w' := by
  obtain ⟨W0, hW0⟩ : ∃ W0, W0 = (w.alloc (.cells #[.slice a l.length cap] 22)).alloc (.cells #[.bool false] 4) := ⟨_, rfl⟩
  have K0 : Keeps (fun _ => False) w W0 := by rw [hW0]; exact ((Keeps.refl _ w).alloc _).alloc _
  have z0 : W0.heap.size = w.heap.size + 2 := by rw [hW0]; simp
  have bA : Boxed W0 w.heap.size 22 (.slice a l.length cap) := by rw [hW0]; exact (Boxed.new w _ _).alloc _
  have bR : Boxed W0 (w.heap.size + 1) 4 (.bool false) := by
    rw [hW0]
    have := Boxed.new (w.alloc (.cells #[.slice a l.length cap] 22)) 4 (.bool false)
    rwa [World.size_alloc] at this
  have hfr := callsIn_wide (n := 5).2 (fresh_any W0)
  have hp := peq (w.heap.size + 1 + 1)
  rw [z0] at hfr
  refine callsIn_of_wp_marks Try.func3 rfl trivial ?_
  simp only [Try.ntmps3, List.size_toArray, List.length_cons, List.length_nil, Nat.reduceAdd, Nat.reduceSub, Array.replicate_succ, Array.replicate_zero, List.push_toArray, List.append_toArray, List.nil_append, List.cons_append]
  gi_wp2
  rw [← hW0]
  clear hW0
  gi_wp2_with (refine ⟨trivial, ?_⟩; gi_at_call 4; refine hfr.mono ?_; clear hfr; rintro e w1 ⟨rfl, hM⟩; have cA1 := hM.keeps.cell (p := ⟨w.heap.size, 0, none⟩) bA.cell (fun e => e); have cA2 := fun o => ((Keeps.refl (fun _ => False) w1).alloc o).cell cA1 (fun e => e))
  have hM0 : MP W0 (fun g => g = w1.heap.size) (w1.alloc (.cells #[.pointer (some ⟨w.heap.size + 2, 0, none⟩)] 23)) (w.heap.size + 2) (fr 3) := (MP.ofMN hM).own ((Keeps.refl _ w1).alloc _) (fun g hg => ⟨.inr (by omega), by simp; omega⟩)
  have bM0 : Boxed (w1.alloc (.cells #[.pointer (some ⟨w.heap.size + 2, 0, none⟩)] 23)) w1.heap.size 23 (.pointer (some ⟨w.heap.size + 2, 0, none⟩)) := Boxed.new w1 _ _
  have G0 : GA (fr 3) 0 := ⟨rfl, fun h => by simp [fr, Mm.new] at h, by simp [fr, Mm.new]⟩
  have hbm : W0.heap.size ≤ w1.heap.size := hM.keeps.size
  clear hM cA1 cA2
  generalize hmb : w.heap.size + 2 = mb at *
  generalize (w1.alloc (.cells #[.pointer (some ⟨mb, 0, none⟩)] 23)) = wm at *
  generalize w1.heap.size = bm at *
  generalize fr 3 = s0 at *
  gi_loopw [34] (fun i W => ∃ (k : Nat) (s : Mm), k ≤ l.length ∧ i = .int .i64 (k : Int) ∧ GA s k ∧ MP W0 (fun g => g = bm) W mb s ∧ Boxed W bm 23 (.pointer (some ⟨mb, 0, none⟩))) (fun i _ => l.length - (intOf i).toNat)
  case atStart => exact ⟨0, s0, Nat.zero_le _, rfl, G0, hM0, bM0⟩
  case round =>
    clear hM0 bM0 G0
    obtain ⟨k, s, hk, rfl, hG, hM, hB9⟩ := hrel
    by_cases hlt : k < l.length
    · have hltI : (k : Int) < (l.length : Int) := by omega
      obtain ⟨b, off, rfl, hb, hcs⟩ := hA.some (by omega)
      obtain ⟨c0, c1, c2, c3⟩ := hcs k hlt
      have kpw := K0.trans hM.keeps
      have d0 := kpw.cell c0 (fun e => e)
      have d1 := kpw.cell c1 (fun e => e)
      have d2 := kpw.cell c2 (fun e => e)
      have d3 := kpw.cell c3 (fun e => e)
      generalize aa l k = q at d0 d1 d2 d3
      have HB9 : Hid (Boxed wr bm 23 (.pointer (some ⟨mb, 0, none⟩))) := hB9
      have c9 := fun o => (hB9.alloc o).cell
      have hM2 : ∀ o, MP W0 (fun g => g = bm ∨ g = wr.heap.size) (wr.alloc o) mb s := fun o => hM.own ((Keeps.refl _ wr).alloc o) (fun g hg => by
        rcases hg with e | e
        · exact ⟨.inl e, by have := hM.lt e; simp; omega⟩
        · exact ⟨.inr (by omega), by simp; omega⟩)
      have hBg := fun o => callsIn_wide (n := 5).2 (pbegin (hM2 o) (k : Int) 0 hG.may)
      have hnu := fun W => callsIn_wide (n := 5).2 (num_of W 0)
      clear hcs c0 c1 c2 c3 kpw hM hB9 hM2
      gi_wp2_with (refine ⟨trivial, ?_⟩; first | (gi_at_call 6; refine (hBg _).mono ?_; clear hBg; rintro e w2 ⟨rfl, hM2, k2⟩; have a0 := k2.cell (p := ⟨wr.heap.size, 0, none⟩) (v := .int .i64 q.kind) (by simp) (.inr rfl); have a1 := k2.cell (p := ⟨wr.heap.size, 1, none⟩) (v := .int .i64 q.c) (by simp) (.inr rfl); have a2 := k2.cell (p := ⟨wr.heap.size, 2, none⟩) (v := .int .i64 q.x) (by simp) (.inr rfl); have a3 := k2.cell (p := ⟨wr.heap.size, 3, none⟩) (v := .int .i64 q.y) (by simp) (.inr rfl); have c9' := k2.cell (c9 _) (.inl rfl)) | (gi_at_call 5; refine (hnu _).mono ?_; rintro e w2' ⟨rfl, rfl⟩) | (gi_at_call 7; refine (callsIn_wide (n := 5).2 (pasked hM2 hG (by omega) q)).mono ?_; rintro e w7 ⟨x, y, s', rfl, hG7, hM7, k7⟩))
      have HB7 := bx_keeps (bx_keeps (HB9.out.alloc _) k2 (fun e => e.2 (.inl rfl))) k7 (fun e => e.2 (.inl rfl))
      have HM7 : MP W0 (fun g => g = bm) w7 mb s' := hM7.weak (fun _ e => .inl e)
      clear hM7 hM2 k7 k2 a0 a1 a2 a3 c9 c9' HB9
      go_roundw
      case rel => exact ⟨k + 1, s', by omega, by go_num, hG7, HM7, HB7⟩
      case measure => simp [intOf]; omega
    · have hltI : ¬ (k : Int) < (l.length : Int) := by omega
      have c9 := hB9.cell
      have hlg : s.log.length ≤ 1048576 := by have := hG.ln; omega
      have hl1 := callsIn_wide (n := 5).2 (plog hM (by omega))
      have hta := fun W => callsIn_wide (n := 5).2 (tail_any W (some ⟨mb, 0, none⟩) fm)
      have hnil : ∀ (fn : Fn) (first cap : Array Value) (W : World), (binOp .eql 35 (.func fn first cap) Value.nilFunc).run Try.prog W = .ok (.bool false) W := fun fn first cap W => rfl
      have hsf := store_func
      obtain ⟨st, hst⟩ : ∃ st : Nat, Hid ((st : Int) = max fm 0) := ⟨(max fm 0).toNat, by show _ = _; omega⟩
      have HM : Hid (MP W0 (fun g => g = bm) wr mb s) := hM
      have HG : Hid (GA s l.length) := by rw [show l.length = k by omega]; exact hG
      have HB9 : Hid (Boxed wr bm 23 (.pointer (some ⟨mb, 0, none⟩))) := hB9
      generalize hL : s.log = L at hl1 hlg
      have HL : Hid (s.log = L) := hL
      clear hL hM hG hB9 hk hlt
      gi_wp2
      rename_i K12 hK12 K11 hK11
      obtain ⟨K18, hK18, hJ11⟩ := cut4 hK12
      clear hK12
      refine ⟨trivial, ?_⟩
      gi_at_call 8
      refine hl1.mono ?_
      clear hl1
      rintro e w4 ⟨vl, rfl, ol, k4⟩
      obtain ⟨al, cl, rfl, hal, hgl⟩ := own_at ol rfl
      have hrest : ∀ (v50 v51 v52 v53 v54 v55 v56 v57 v58 v59 v60 : Value) (x y : Int), (x = (st : Int) ∧ y = ((L.length - st : Nat) : Int)) → K18 { tmps := #[.slice a l.length cap, .int .i64 fm, .int .i64 lv, .int .i64 ag, .pointer (some ⟨w.heap.size, 0, none⟩), undef, undef, undef, .pointer (some ⟨w.heap.size + 1, 0, none⟩), .pointer (some ⟨bm, 0, none⟩), u10, u11, .pointer (some ⟨w4.heap.size, 0, none⟩), .pointer (some ⟨w4.heap.size + 1, 0, none⟩), .pointer (some ⟨w4.heap.size + 1 + 1, 0, none⟩), undef, undef, undef, undef, undef, undef, undef, undef, undef, undef, undef, undef, undef, undef, .pointer (some ⟨mb, 0, none⟩), .pointer (some ⟨mb, 0, none⟩), .bool false, .slice a l.length cap, .int .i64 (l.length : Int), .int .i64 (k : Int), .bool false, u36, u37, u38, u39, u40, u41, u42, u43, u44, u45, u46, u47, .pointer (some ⟨mb, 0, none⟩), .slice al L.length cl, v50, v51, v52, v53, v54, v55, v56, v57, v58, v59, v60, undef, undef, undef, undef, undef, undef, undef, undef, undef, undef, undef, undef, undef, undef, undef, undef, undef, undef, undef, undef, undef, undef, undef, undef, undef, undef, undef, undef, undef, undef, undef, undef, undef, undef, undef, undef, undef, undef, undef, undef, undef, undef, undef, undef, undef, undef, undef, undef, undef, undef, undef, undef, undef, undef, undef, undef, undef, undef, undef, undef, undef, undef, undef, undef, undef, undef, undef, undef, undef, undef, undef, undef, undef, undef, undef, undef, undef, undef, undef, undef, undef, undef, undef, undef, undef, undef, undef, undef, undef, undef, undef, undef, undef, undef, undef, undef, undef, undef, undef, undef, undef, undef, undef, undef, undef, undef, undef, undef, undef, undef, undef, undef, undef, undef, undef, undef, undef], defers := [] } (((w4.alloc (.cells #[.slice al L.length cl] 32)).alloc (.cells #[.int .i64 x] 3)).alloc (.cells #[.int .i64 y] 3)) := by
        rintro v50 v51 v52 v53 v54 v55 v56 v57 v58 v59 v60 _ _ ⟨rfl, rfl⟩
        have c94 := fun o1 o2 o3 => ((((Keeps.refl (fun _ => False) w4).alloc o1).alloc o2).alloc o3).cell (k4.cell c9 (fun e => e)) (fun e => e)
        refine hK18 _ _ ?_
        clear hJ11 hK11
        gi_wp2_with (refine ⟨trivial, ?_⟩; gi_at_call 9; refine (hta _).mono ?_; clear hta; rintro e w5 ⟨rfl, hw5⟩; have HW5 : Hid (w5 = _) := hw5; clear hw5)
        have hX := SX.start (st := st) HM.out HB9.out k4 ol HW5.out rfl
        have z6 : ((w5.alloc (.cells #[.func (.func 18) #[] #[.pointer (some ⟨w4.heap.size + 1 + 1 + 1, 0, none⟩), .pointer (some ⟨w4.heap.size + 1 + 1 + 1 + 1, 0, none⟩)]] 35)).alloc (.cells #[.int .i64 0] 3)).heap.size = w5.heap.size + 2 := by simp
        have z5 : w5.heap.size = w4.heap.size + 5 := by rw [HW5.out]; simp
        have z4 := k4.size
        generalize (w5.alloc (.cells #[.func (.func 18) #[] #[.pointer (some ⟨w4.heap.size + 1 + 1 + 1, 0, none⟩), .pointer (some ⟨w4.heap.size + 1 + 1 + 1 + 1, 0, none⟩)]] 35)).alloc (.cells #[.int .i64 0] 3) = w6 at hX z6 ⊢
        have hF : FX L st l.length s 0 0 := ⟨by omega, fun _ => rfl, fun e => by omega, by rw [HL.out]; rfl, fun i _ => by rw [HL.out], fun _ => HG.out⟩
        have hL0 : LX W0 bm mb w4.heap.size w5.heap.size al cl L st fm l.length _ (fun _ => 0) w6 s 0 0 := ⟨Nat.zero_le _, hX, hF, fun i hi => by omega, fun i hi => by omega⟩
        have HDS : Hid (W0.heap.size ≤ w5.heap.size + 1 ∧ w5.heap.size + 1 ≠ bm ∧ (w5.heap.size + 1 ≠ w4.heap.size ∧ w5.heap.size + 1 ≠ w4.heap.size + 1 ∧ w5.heap.size + 1 ≠ w4.heap.size + 1 + 1 ∧ w5.heap.size + 1 ≠ w4.heap.size + 1 + 1 + 1 ∧ w5.heap.size + 1 ≠ w4.heap.size + 1 + 1 + 1 + 1) ∧ ¬ (Value.slice al L.length cl).ownBlock = some (w5.heap.size + 1)) := by
          have h1 := HM.out.lt (show bm = bm from rfl)
          have h2 := HM.out.keeps.size
          exact ⟨by omega, by omega, ⟨by omega, by omega, by omega, by omega, by omega⟩, fun e => by have := owns_lt' ol _ e; omega⟩
        have HW4 : Hid (W0.heap.size ≤ w4.heap.size) := Nat.le_trans HM.out.keeps.size k4.size
        have Z5 : Hid (w5.heap.size = w4.heap.size + 5) := z5
        have Z6 : Hid (w6.heap.size = w5.heap.size + 2) := z6
        clear z5 z6
        clear hX hF HM HB9 HW5 ol k4 hal hgl c9 c94 HL
        refine wpIn_loop (fun a' W => ∃ (v17 v18 v19 v20 v70 v71 v72 v73 v74 v75 v76 v129 v130 v131 v132 v133 v134 v135 v136 v137 v138 v139 v140 v69 : Value) (ds : List Deferred) (i : Nat) (sp : Mm) (p : Nat) (R : Nat → Prop) (D : Nat → Nat), a' = { tmps := #[.slice a l.length cap, .int .i64 fm, .int .i64 lv, .int .i64 ag, .pointer (some ⟨w.heap.size, 0, none⟩), undef, undef, undef, .pointer (some ⟨w.heap.size + 1, 0, none⟩), .pointer (some ⟨bm, 0, none⟩), u10, u11, .pointer (some ⟨w4.heap.size, 0, none⟩), .pointer (some ⟨w4.heap.size + 1, 0, none⟩), .pointer (some ⟨w4.heap.size + 1 + 1, 0, none⟩), .pointer (some ⟨w5.heap.size, 0, none⟩), .pointer (some ⟨w5.heap.size + 1, 0, none⟩), v17, v18, v19, v20, undef, undef, undef, undef, undef, undef, undef, undef, .pointer (some ⟨mb, 0, none⟩), .pointer (some ⟨mb, 0, none⟩), .bool false, .slice a l.length cap, .int .i64 (l.length : Int), .int .i64 (k : Int), .bool false, u36, u37, u38, u39, u40, u41, u42, u43, u44, u45, u46, u47, .pointer (some ⟨mb, 0, none⟩), .slice al L.length cl, v50, v51, v52, v53, v54, v55, v56, v57, v58, v59, v60, .pointer (some ⟨mb, 0, none⟩), .int .i64 fm, .func (.func 18) #[] #[.pointer (some ⟨w4.heap.size + 1 + 1 + 1, 0, none⟩), .pointer (some ⟨w4.heap.size + 1 + 1 + 1 + 1, 0, none⟩)], .func (.func 18) #[] #[.pointer (some ⟨w4.heap.size + 1 + 1 + 1, 0, none⟩), .pointer (some ⟨w4.heap.size + 1 + 1 + 1 + 1, 0, none⟩)], .bool false, .int .i64 lv, .int .i64 ag, .agg #[.int .i64 lv, .int .i64 ag, .int .i64 (-1)], v69, v70, v71, v72, v73, v74, v75, v76, undef, undef, undef, undef, undef, undef, undef, undef, undef, undef, undef, undef, undef, undef, undef, undef, undef, undef, undef, undef, undef, undef, undef, undef, undef, undef, undef, undef, undef, undef, undef, undef, undef, undef, undef, undef, undef, undef, undef, undef, undef, undef, undef, undef, undef, undef, undef, undef, undef, undef, undef, undef, v129, v130, v131, v132, v133, v134, v135, v136, v137, v138, v139, v140, undef, undef, undef, undef, undef, undef, undef, undef, undef, undef, undef, undef, undef, undef, undef, undef, undef, undef, undef, undef, undef, undef, undef, undef, undef, undef, undef, undef, undef, undef, undef, undef, undef, undef, undef, undef, undef], defers := ds } ∧ v69 = .int .i64 (i : Int) ∧ ds = dsl i D ∧ LX W0 bm mb w4.heap.size w5.heap.size al cl L st fm l.length R D W sp p i) (fun a' _ => 3 - (intOf (a'.tmps.getD 69 undef)).toNat) ⟨_, _, _, _, _, _, _, _, _, _, _, _, _, _, _, _, _, _, _, _, _, _, _, _, _, _, _, _, _, _, rfl, rfl, rfl, hL0⟩ ?_
        rintro _ wq ⟨v17, v18, v19, v20, v70, v71, v72, v73, v74, v75, v76, v129, v130, v131, v132, v133, v134, v135, v136, v137, v138, v139, v140, _, _, i, sp, p, R, D, rfl, rfl, rfl, hL⟩
        clear hL0
        by_cases h3 : i < 3
        · obtain ⟨stp, hidx⟩ : ∃ stp : Int, ∀ w' : World, (Instr.index 37 (.agg #[.int .i64 lv, .int .i64 ag, .int .i64 (-1)]) (.int .i64 (i : Int))).run Try.prog w' = .ok (.int .i64 stp) w' := by
            have : i = 0 ∨ i = 1 ∨ i = 2 := by omega
            rcases this with rfl | rfl | rfl
            · exact ⟨lv, fun _ => by kernel_rfl⟩
            · exact ⟨ag, fun _ => by kernel_rfl⟩
            · exact ⟨-1, fun _ => by kernel_rfl⟩
          have h3I : (i : Int) < 3 := by omega
          have HLX : Hid (LX W0 bm mb w4.heap.size w5.heap.size al cl L st fm l.length R D wq sp p i) := hL
          have c14 := fun o1 o2 => ((hL.sx.bN.alloc o1).alloc o2).cell
          have c16 := fun o1 o2 => ((hL.sx.bP.alloc o1).alloc o2).cell
          have c15 := fun o1 o2 o3 o4 => ((((hL.sx.bF.alloc o1).alloc o2).alloc o3).alloc o4).cell
          have hp1 := hL.fx.p1
          clear hL
          have W1 : IntKind.i64.wrap (((L.length - st : Nat) : Int) + (p : Int)) = ((L.length - st : Nat) : Int) + (p : Int) := by rw [IntKind.wrap_i64]; omega
          gi_wp2
          rename_i K4 hK4
          have hL := HLX.out
          have hPX := hL.sx.pass (kd := i) (D := D) (i : Int) stp (((L.length - st : Nat) : Int) + (p : Int)) hL.sx.mp.keeps.size hL.dd
          have z7 : ((((wq.alloc (.cells #[.int .i64 (i : Int)] 3)).alloc (.cells #[.int .i64 stp] 3)).alloc (.cells #[.int .i64 (((L.length - st : Nat) : Int) + (p : Int))] 3)).alloc (.cells #[.int .i64 0] 3)).heap.size = wq.heap.size + 4 := by simp
          generalize (((wq.alloc (.cells #[.int .i64 (i : Int)] 3)).alloc (.cells #[.int .i64 stp] 3)).alloc (.cells #[.int .i64 (((L.length - st : Nat) : Int) + (p : Int))] 3)).alloc (.cells #[.int .i64 0] 3) = w7 at hPX z7 ⊢
          have Z7 : Hid (w7.heap.size = wq.heap.size + 4) := z7
          clear z7 c14 c16 c15 W1 hidx h3I
          obtain ⟨R7, hR7⟩ : ∃ R7 : Nat → Prop, R7 = fun g => R g ∨ (wq.heap.size ≤ g ∧ g < wq.heap.size + 4) := ⟨_, rfl⟩
          rw [← hR7] at hPX
          clear hR7
          have hfx := hL.fx
          have hdl := hL.dl
          clear hL HLX
          obtain ⟨a7, cp7, hlg7, hrw7, hg7⟩ := hPX.sx.mp.log
          have hlen7 := hfx.ll
          have hrw := hfx.rows
          have hrest2 : ∀ (Dn : Nat) (W : World) (sp' : Mm) (p' n : Nat), w7.heap.size ≤ Dn → PX W0 bm mb w4.heap.size w5.heap.size al cl L st fm R7 wq.heap.size (i : Int) stp (((L.length - st : Nat) : Int) + (p : Int)) i D W sp' p' n → FX L st l.length sp' p' (i + 1) → ((n = L.length - st + p ∧ (∀ m : Nat, 1 ≤ m → m ≤ n → (m : Int) ≠ stp)) ∨ ((n : Int) = stp ∧ 1 ≤ n ∧ n ≤ L.length - st + p)) → W.heap[Dn]? = some (.deferred (some [])) → K4 { tmps := #[.slice a l.length cap, .int .i64 fm, .int .i64 lv, .int .i64 ag, .pointer (some ⟨w.heap.size, 0, none⟩), undef, undef, undef, .pointer (some ⟨w.heap.size + 1, 0, none⟩), .pointer (some ⟨bm, 0, none⟩), u10, u11, .pointer (some ⟨w4.heap.size, 0, none⟩), .pointer (some ⟨w4.heap.size + 1, 0, none⟩), .pointer (some ⟨w4.heap.size + 1 + 1, 0, none⟩), .pointer (some ⟨w5.heap.size, 0, none⟩), .pointer (some ⟨w5.heap.size + 1, 0, none⟩), .pointer (some ⟨wq.heap.size, 0, none⟩), .pointer (some ⟨wq.heap.size + 1, 0, none⟩), .pointer (some ⟨wq.heap.size + 1 + 1, 0, none⟩), .pointer (some ⟨wq.heap.size + 1 + 1 + 1, 0, none⟩), undef, undef, undef, undef, undef, undef, undef, undef, .pointer (some ⟨mb, 0, none⟩), .pointer (some ⟨mb, 0, none⟩), .bool false, .slice a l.length cap, .int .i64 (l.length : Int), .int .i64 (k : Int), .bool false, u36, u37, u38, u39, u40, u41, u42, u43, u44, u45, u46, u47, .pointer (some ⟨mb, 0, none⟩), .slice al L.length cl, v50, v51, v52, v53, v54, v55, v56, v57, v58, v59, v60, .pointer (some ⟨mb, 0, none⟩), .int .i64 fm, .func (.func 18) #[] #[.pointer (some ⟨w4.heap.size + 1 + 1 + 1, 0, none⟩), .pointer (some ⟨w4.heap.size + 1 + 1 + 1 + 1, 0, none⟩)], .func (.func 18) #[] #[.pointer (some ⟨w4.heap.size + 1 + 1 + 1, 0, none⟩), .pointer (some ⟨w4.heap.size + 1 + 1 + 1 + 1, 0, none⟩)], .bool false, .int .i64 lv, .int .i64 ag, .agg #[.int .i64 lv, .int .i64 ag, .int .i64 (-1)], .int .i64 (i : Int), .bool true, .int .i64 (i : Int), .int .i64 stp, .int .i64 ((L.length - st : Nat) : Int), .int .i64 (p : Int), .int .i64 (((L.length - st : Nat) : Int) + (p : Int)), .func (.func 18) #[] #[.pointer (some ⟨w4.heap.size + 1 + 1 + 1, 0, none⟩), .pointer (some ⟨w4.heap.size + 1 + 1 + 1 + 1, 0, none⟩)], undef, undef, undef, undef, undef, undef, undef, undef, undef, undef, undef, undef, undef, undef, undef, undef, undef, undef, undef, undef, undef, undef, undef, undef, undef, undef, undef, undef, undef, undef, undef, undef, undef, undef, undef, undef, undef, undef, undef, undef, undef, undef, undef, undef, undef, undef, undef, undef, undef, undef, undef, undef, v129, v130, v131, v132, v133, v134, v135, v136, v137, v138, v139, v140, undef, undef, undef, undef, undef, undef, undef, undef, undef, undef, undef, undef, undef, undef, undef, undef, undef, undef, undef, undef, undef, undef, undef, undef, undef, undef, undef, undef, undef, undef, undef, undef, undef, undef, undef, undef, undef], defers := { target := .collected Dn, args := #[] } :: dsl i D } W := by
            intro Dn W sp' p' n hDn hP hF hn hD
            refine hK4 _ _ ?_
            clear hK4
            have HP : Hid (PX W0 bm mb w4.heap.size w5.heap.size al cl L st fm R7 wq.heap.size (i : Int) stp (((L.length - st : Nat) : Int) + (p : Int)) i D W sp' p' n) := hP
            have HD : Hid (W.heap[Dn]? = some (.deferred (some []))) := hD
            have HF : Hid (FX L st l.length sp' p' (i + 1)) := hF
            have HDL := (show Hid _ from hdl)
            have c18 := hP.b1.cell
            have c19 := hP.b2.cell
            have z19 := hP.b2.frozen
            have c20 := hP.b3.cell
            have hcase : (decide (1 ≤ stp) = true ∧ decide (stp < ((L.length - st : Nat) : Int) + (p : Int)) = true ∧ ((n : Int) != stp) = false) ∨ (decide (1 ≤ stp) = true ∧ decide (stp < ((L.length - st : Nat) : Int) + (p : Int)) = false ∧ ((n : Int) != ((L.length - st : Nat) : Int) + (p : Int)) = false) ∨ (decide (1 ≤ stp) = false ∧ ((n : Int) != ((L.length - st : Nat) : Int) + (p : Int)) = false) := by
              rcases hn with ⟨h1, h2⟩ | ⟨h1, h2, h4⟩
              · by_cases e1 : 1 ≤ stp
                · refine .inr (.inl ⟨by simpa using e1, ?_, by simp; omega⟩)
                  have := h2 stp.toNat (by omega)
                  simp
                  omega
                · exact .inr (.inr ⟨by simpa using e1, by simp; omega⟩)
              · by_cases e1 : stp < ((L.length - st : Nat) : Int) + (p : Int)
                · exact .inl ⟨by simp; omega, by simpa using e1, by simp; omega⟩
                · exact .inr (.inl ⟨by simp; omega, by simpa using e1, by simp; omega⟩)
            clear hn hP hD hF hdl hrw hlen7 hlg7 hrw7 hg7 hPX hfx
            have W1 : IntKind.i64.wrap ((i : Int) + 1) = (i : Int) + 1 := by rw [IntKind.wrap_i64]; omega
            rcases hcase with ⟨e1, e2, e3⟩ | ⟨e1, e2, e3⟩ | ⟨e1, e3⟩
            all_goals
              gi_wp2
              refine ⟨⟨_, _, _, _, _, _, _, _, _, _, _, _, _, _, _, _, _, _, _, _, _, _, _, _, _, i + 1, sp', p', (fun g => R7 g ∨ g = Dn), upD D i Dn, rfl, by go_num, (dsl_succ i D Dn).symm, ?_⟩, by simp [intOf]; omega⟩
              have hb : wq.heap.size ≤ Dn := by have := Z7.out; omega
              first
              | exact HP.out.next h3 HF.out HDL.out HD.out hb
              | exact (HP.out.seth stp).next h3 HF.out HDL.out ((KeepsOthers.setCell W _ _).same Dn _ HD.out rfl) hb
          refine wpIn_rangeFunc_ownH (α := Fin (sp.log.length - st)) rfl (by omega) (gf := 18) (lb := #[.pointer (some ⟨w4.heap.size + 1 + 1 + 1, 0, none⟩), .pointer (some ⟨w4.heap.size + 1 + 1 + 1 + 1, 0, none⟩)]) rfl trivial (enters_of Try.func18 (by kernel_rfl) rfl)
            (tail_stopsF 5 (by omega) (w4.heap.size + 1 + 1 + 1) (w4.heap.size + 1 + 1 + 1 + 1) mb fm st hst.out a7 cp7 sp.log (by omega) (KR a7 sp.log.length) (fun _ _ k => k) w7 hPX.sx.b1.cell hPX.sx.b2.cell hlg7 hrw7) KR.trans (KR.put (fun g e => (hg7 g e).1)) (Below.refl _ _) (fun _ => rfl)
            (fun pre W => ∃ (sp' : Mm) (p' : Nat), PX W0 bm mb w4.heap.size w5.heap.size al cl L st fm R7 wq.heap.size (i : Int) stp (((L.length - st : Nat) : Int) + (p : Int)) i D W sp' p' pre.length ∧ (pre.length = 0 → W.cell? ⟨mb, 1, none⟩ = some (.slice a7 sp.log.length cp7)) ∧ (∀ m : Nat, 1 ≤ m → m ≤ pre.length → (m : Int) ≠ stp) ∧ ((i = 1 ∧ 1 ≤ pre.length ∧ FX L st l.length sp' p' 2) ∨ (¬ (i = 1 ∧ 1 ≤ pre.length) ∧ sp' = sp ∧ p' = p)))
            (fun cd pre W => (cd = .ret ∧ ∃ (q : List (Fin (sp.log.length - st))) (x : Fin (sp.log.length - st)), pre = q ++ [x] ∧ (x : Nat) ≠ q.length) ∨ (cd = .exit 4 ∧ ∃ (sp' : Mm) (p' : Nat), PX W0 bm mb w4.heap.size w5.heap.size al cl L st fm R7 wq.heap.size (i : Int) stp (((L.length - st : Nat) : Int) + (p : Int)) i D W sp' p' pre.length ∧ (pre.length : Int) = stp ∧ FX L st l.length sp' p' (i + 1)))
            (fun pre A B row hs hg hr => by
              obtain ⟨sp', p', h1, h2, h4⟩ := hs
              exact ⟨sp', p', h1.kept hg (fun r e => ⟨by have := (hr r e).1; have := Z7.out; omega, (hr r e).2⟩), fun e => cell_kept (h2 e) hg (fun r e => (hr r e).2), h4⟩)
            (fun cd pre A B row hs hg hr => by
              rcases hs with hs | ⟨e, sp', p', h1, h2⟩
              · exact .inl hs
              · exact .inr ⟨e, sp', p', h1.kept hg (fun r e => ⟨by have := (hr r e).1; have := Z7.out; omega, (hr r e).2⟩), h2⟩)
            ⟨sp, p, hPX, fun _ => hlg7, fun m h1 h2 => by simp at h2; omega, .inr ⟨fun e => by have := e.2; simp at this, rfl, rfl⟩⟩
            (fun x av W => ∃ Bx ix, ix = st + (x : Nat) ∧ w7.heap.size ≤ Bx ∧ RowAt W Bx 0 (ra sp.log ix) ∧ av = { tmps := #[.slice a l.length cap, .int .i64 fm, .int .i64 lv, .int .i64 ag, .pointer (some ⟨w.heap.size, 0, none⟩), undef, undef, undef, .pointer (some ⟨w.heap.size + 1, 0, none⟩), .pointer (some ⟨bm, 0, none⟩), u10, u11, .pointer (some ⟨w4.heap.size, 0, none⟩), .pointer (some ⟨w4.heap.size + 1, 0, none⟩), .pointer (some ⟨w4.heap.size + 1 + 1, 0, none⟩), .pointer (some ⟨w5.heap.size, 0, none⟩), .pointer (some ⟨w5.heap.size + 1, 0, none⟩), .pointer (some ⟨wq.heap.size, 0, none⟩), .pointer (some ⟨wq.heap.size + 1, 0, none⟩), .pointer (some ⟨wq.heap.size + 1 + 1, 0, none⟩), .pointer (some ⟨wq.heap.size + 1 + 1 + 1, 0, none⟩), .int .i64 (ix : Int), .pointer (some ⟨Bx, 0, none⟩), undef, undef, undef, undef, undef, undef, .pointer (some ⟨mb, 0, none⟩), .pointer (some ⟨mb, 0, none⟩), .bool false, .slice a l.length cap, .int .i64 (l.length : Int), .int .i64 (k : Int), .bool false, u36, u37, u38, u39, u40, u41, u42, u43, u44, u45, u46, u47, .pointer (some ⟨mb, 0, none⟩), .slice al L.length cl, v50, v51, v52, v53, v54, v55, v56, v57, v58, v59, v60, .pointer (some ⟨mb, 0, none⟩), .int .i64 fm, .func (.func 18) #[] #[.pointer (some ⟨w4.heap.size + 1 + 1 + 1, 0, none⟩), .pointer (some ⟨w4.heap.size + 1 + 1 + 1 + 1, 0, none⟩)], .func (.func 18) #[] #[.pointer (some ⟨w4.heap.size + 1 + 1 + 1, 0, none⟩), .pointer (some ⟨w4.heap.size + 1 + 1 + 1 + 1, 0, none⟩)], .bool false, .int .i64 lv, .int .i64 ag, .agg #[.int .i64 lv, .int .i64 ag, .int .i64 (-1)], .int .i64 (i : Int), .bool true, .int .i64 (i : Int), .int .i64 stp, .int .i64 ((L.length - st : Nat) : Int), .int .i64 (p : Int), .int .i64 (((L.length - st : Nat) : Int) + (p : Int)), .func (.func 18) #[] #[.pointer (some ⟨w4.heap.size + 1 + 1 + 1, 0, none⟩), .pointer (some ⟨w4.heap.size + 1 + 1 + 1 + 1, 0, none⟩)], .int .i64 (ix : Int), .agg #[.int .i64 (ra sp.log ix).step, .int .i64 (ra sp.log ix).thread, .int .i64 (ra sp.log ix).kind, .int .i64 (ra sp.log ix).cell, .int .i64 (ra sp.log ix).seen, .int .i64 (ra sp.log ix).wrote, .bool (ra sp.log ix).done], undef, undef, undef, undef, undef, undef, undef, undef, undef, undef, undef, undef, undef, undef, undef, undef, undef, undef, undef, undef, undef, undef, undef, undef, undef, undef, undef, undef, undef, undef, undef, undef, undef, undef, undef, undef, undef, undef, undef, undef, undef, undef, undef, undef, undef, undef, undef, undef, undef, undef, v129, v130, v131, v132, v133, v134, v135, v136, v137, v138, v139, v140, undef, undef, undef, undef, undef, undef, undef, undef, undef, undef, undef, undef, undef, undef, undef, undef, undef, undef, undef, undef, undef, undef, undef, undef, undef, undef, undef, undef, undef, undef, undef, undef, undef, undef, undef, undef, undef], defers := [] })
            (fun x av _ W W' row hs hg hr => by
              obtain ⟨Bx, ix, hi, h1, Rw, e⟩ := hs
              exact ⟨Bx, ix, hi, h1, Rw.kept hg (fun r e => (hr r e).2), e⟩) ?assign ?body ?done ?stop
          case assign =>
            rintro lr pre x W K ⟨sp', p', hP, hc, hm, hd⟩ hK
            obtain ⟨ix, hi⟩ : ∃ ix : Nat, ix = st + (x : Nat) := ⟨_, rfl⟩
            simp only [encs, nrs, ← hi]
            have HI : Hid (ix = st + (x : Nat)) := hi
            have hsz : w7.heap.size ≤ W.heap.size := by have := hP.sx.mp.lt (hP.ib (wq.heap.size + 3) (by omega) (by omega)); have := Z7.out; omega
            clear hi
            gi_wp2
            refine hK _ _ ((KeepsOthers.alloc _ _).from _) (KR.of ((Keeps.refl (fun _ => False) W).alloc _) (fun _ _ e => e)) ⟨sp', p', hP.new ((Keeps.refl _ W).alloc _), fun e => ((Keeps.refl (fun _ => False) W).alloc _).cell (hc e) (fun e => e), hm, hd⟩ ⟨W.heap.size, ix, HI.out, hsz, ?_, rfl⟩
            constructor <;> simp
          case body =>
            rintro lr pre x av W hl _ ⟨sp', p', hP, hc, hm, hd⟩ ⟨Bx, ix, hi, hBx, Rw, rfl⟩ hlt
            obtain ⟨n, hn⟩ : ∃ n, Hid (n = pre.length) := ⟨_, rfl⟩
            rw [← hn.out] at hP hc hm hd hlt
            have xlt := x.2
            have hxn : ix = st + n → ra sp.log ix = ra sp.log (st + n) := fun e => by rw [e]
            obtain ⟨mm, hmm⟩ : ∃ mm : Nat, Hid (mm = st + n) := ⟨_, rfl⟩
            have W1 : IntKind.i64.wrap ((st : Int) + (n : Int)) = (mm : Int) := by rw [IntKind.wrap_i64, hmm.out]; omega
            have W2 : IntKind.i64.wrap ((n : Int) + 1) = (n : Int) + 1 := by rw [IntKind.wrap_i64]; omega
            have D0 : decide (((L.length - st : Nat) : Int) + (p : Int) ≤ (n : Int)) = false := decide_eq_false (by omega)
            have HP : Hid (PX W0 bm mb w4.heap.size w5.heap.size al cl L st fm R7 wq.heap.size (i : Int) stp (((L.length - st : Nat) : Int) + (p : Int)) i D W sp' p' n) := hP
            have HC : Hid (n = 0 → W.cell? ⟨mb, 1, none⟩ = some (.slice a7 sp.log.length cp7)) := hc
            have HM : Hid (∀ m : Nat, 1 ≤ m → m ≤ n → (m : Int) ≠ stp) := hm
            have HDD : Hid ((i = 1 ∧ 1 ≤ n ∧ FX L st l.length sp' p' 2) ∨ (¬ (i = 1 ∧ 1 ≤ n) ∧ sp' = sp ∧ p' = p)) := hd
            have c20 := ks_cell hP.b3.cell
            have c19 := ks_cell hP.b2.cell
            have c13 := ks_cell hP.sx.bS.cell
            have c14 := ks_cell hP.sx.bN.cell
            have c12 := ks_cell hP.sx.bL.cell
            have hNE : Nonempty (KS W) := ⟨⟨W, Keeps.refl _ W⟩⟩
            have HX : Hid ((ix : Int) ≠ (mm : Int) → (x : Nat) ≠ pre.length) := fun e e' => e (by rw [hi, hmm.out, e', ← hn.out])
            have HRW : Hid (RowAt W Bx 0 (ra sp.log ix)) := Rw
            have HK0 : Hid (Keeps (fun _ => False) W0 W) := hP.sx.mp.keeps
            have hhx : ix = st + (x : Nat) := hi
            have HHR : Hid (sp.log.length - st = (L.length - st) + p) := hrw
            have HLT : Hid (n < sp.log.length - st) := hlt
            clear hP hc hm hd hi hhx hrw hlen7 hlt xlt
            by_cases hxe : (ix : Int) = (mm : Int)
            · have hix : ix = st + n := by have := hmm.out; omega
              have E1 : ((ix : Int) != (mm : Int)) = false := by simpa using hxe
              have hend : ∀ W9 : World, Keeps (fun _ => False) W W9 → ∀ av9 : Act, av9 = av9 → True := fun _ _ _ _ => trivial
              clear hend
              by_cases hnr : n < L.length - st
              · have D1 : decide ((n : Int) < ((L.length - st : Nat) : Int)) = true := decide_eq_true (by omega)
                have D2 : decide (n < L.length - st) = true := decide_eq_true hnr
                have hmI : (mm : Int) < (L.length : Int) := by have := hmm.out; omega
                have hra : ra sp.log ix = ra L mm := by rw [hix, hmm.out]; exact hfx.pr _ (by omega)
                obtain ⟨g, hge, RL⟩ : ∃ g, al = some ⟨g, 0, none⟩ ∧ RowAt W g (mm * 7) (ra L mm) := by
                  have ol := HP.out.sx.rl
                  obtain ⟨a', c', e, hr, _⟩ := own_at ol rfl
                  cases e
                  rcases hr with hr | ⟨g, e, _, hr⟩
                  · have := hmm.out; omega
                  · exact ⟨g, e, hr mm (by have := hmm.out; omega)⟩
                subst hge
                rw [hra] at Rw ⊢
                generalize ra L mm = rr at Rw RL ⊢
                obtain ⟨r0, r1, r2, r3, r4, r5, r6⟩ := rr
                have a0 := ks_cell Rw.r0
                have a1 := ks_cell Rw.r1
                have a2 := ks_cell Rw.r2
                have a3 := ks_cell Rw.r3
                have a4 := ks_cell Rw.r4
                have a5 := ks_cell Rw.r5
                have a6 := ks_cell Rw.r6
                have b0 := ks_cell RL.r0
                have b1 := ks_cell RL.r1
                have b2 := ks_cell RL.r2
                have b3 := ks_cell RL.r3
                have b4 := ks_cell RL.r4
                have b5 := ks_cell RL.r5
                have b6 := ks_cell RL.r6
                simp only [Nat.zero_add] at a0 a1 a2 a3 a4 a5 a6 b0 b1 b2 b3 b4 b5 b6
                clear hra hix hxn hxe Rw RL hnr
                gi_wp2
                refine wpIn_region_ks (by kernel_rfl) (by kernel_rfl) (by kernel_rfl) ?_
                repeat (go_big_quiet_step (fail))
                refine wpQuiet_nil ?_
                rintro _ ⟨u, rfl⟩
                have K9 := u.property
                clear c20 c19 c13 c14 c12 a0 a1 a2 a3 a4 a5 a6 b0 b1 b2 b3 b4 b5 b6 hNE
                generalize u.val = W9 at K9 ⊢
                (try simp only [Exit.then])
                have hko : KeepsOthers W W9 := ⟨K9.size, fun k o h _ => (K9.block k (Array.getElem?_eq_some_iff.1 h).1 (fun e => e)).trans h⟩
                have P9 := HP.out.new K9
                have P10 := P9.setn (n + 1)
                have c20 := P9.b3.cell
                have z20 := P9.b3.frozen
                have e1 : ((n + 1 : Nat) : Int) = (n : Int) + 1 := by omega
                rw [e1] at P10
                have cN := P10.b3.cell
                rw [e1] at cN
                have cS := P10.b1.cell
                have cP := P10.b0.cell
                have cM := P10.sx.b9.cell
                have cA := P10.sx.mp.keeps.cell bA.cell (fun e => e)
                have HP10 := (show Hid _ from P10)
                have HOT : Hid (KeepsOthers W (W9.setCell ⟨wq.heap.size + 1 + 1 + 1, 0, none⟩ (.int .i64 ((n : Int) + 1)))) := hko.trans (KeepsOthers.setCell _ _ _)
                have hne3 : ∀ g, ¬ R7 g → ¬ g = wq.heap.size + 1 + 1 + 1 := fun g hg e => hg (by rw [e]; exact HP.out.ib _ (by omega) (by omega))
                have k10 : Keeps (fun g => g = wq.heap.size + 1 + 1 + 1) W (W9.setCell ⟨wq.heap.size + 1 + 1 + 1, 0, none⟩ (.int .i64 ((n : Int) + 1))) := Keeps.setCell (S := fun g => g = wq.heap.size + 1 + 1 + 1) (K9.mono (fun _ _ e => e.elim)) (p := ⟨wq.heap.size + 1 + 1 + 1, 0, none⟩) (fun _ => rfl) _
                have HKR : Hid (KR a7 sp.log.length W (W9.setCell ⟨wq.heap.size + 1 + 1 + 1, 0, none⟩ (.int .i64 ((n : Int) + 1)))) := KR.of k10 (fun g e => hne3 g (hg7 g e).2)
                have HLG : Hid (n = 0 → (W9.setCell ⟨wq.heap.size + 1 + 1 + 1, 0, none⟩ (.int .i64 ((n : Int) + 1))).cell? ⟨mb, 1, none⟩ = some (.slice a7 sp.log.length cp7)) := fun e => k10.cell (HC.out e) (hne3 _ HP.out.sx.mp.mb.2)
                have HPL : Hid ((pre ++ [x]).length = n + 1) := by show _ = _; rw [List.length_append, List.length_singleton, ← hn.out]
                clear P9 P10 e1 hko k10 hne3 K9
                by_cases hs4 : (n : Int) + 1 = stp
                · have E4 : ((n : Int) + 1 == stp) = true := by simpa using hs4
                  have HST : Hid ((n : Int) + 1 = stp) := hs4
                  clear hs4
                  gi_wp2
                  refine ⟨HOT.out.from _, .inr ⟨rfl, sp', p', ?_, ?_, ?_⟩⟩
                  · rw [HPL.out]; exact HP10.out
                  · rw [HPL.out]; have := HST.out; omega
                  · rcases HDD.out with ⟨rfl, _, h⟩ | ⟨_, rfl, rfl⟩
                    · exact h
                    · exact hfx.next
                · have E4 : ((n : Int) + 1 == stp) = false := by simpa using hs4
                  have HMM : Hid (∀ m : Nat, 1 ≤ m → m ≤ n + 1 → (m : Int) ≠ stp) := fun m h1 h2 => by
                    by_cases h5 : m ≤ n
                    · exact HM.out m h1 h5
                    · intro e; exact hs4 (by omega)
                  clear hs4
                  by_cases hpt : i = 1 ∧ n = 0
                  · obtain ⟨h6, h7⟩ : sp' = sp ∧ p' = p := by
                      rcases HDD.out with ⟨_, h, _⟩ | ⟨_, h⟩
                      · omega
                      · exact h
                    have HP0 := HP10.out
                    rw [h6, h7] at HP0
                    obtain rfl : p = 0 := hfx.pk (by omega)
                    have hga := hfx.ga rfl
                    have hst0 : st < L.length := by have := HHR.out; have := HLT.out; omega
                    have HLG1 : Hid ((W9.setCell ⟨wq.heap.size + 1 + 1 + 1, 0, none⟩ (.int .i64 ((n : Int) + 1))).cell? ⟨mb, 1, none⟩ = some (.slice a7 sp.log.length cp7)) := HLG.out hpt.2
                    have hBg := CallsIn.inRound lr (callsIn_wide (n := 3).2 (pbegink HP0.sx.mp (l.length : Int) 0 hga.may))
                    have hnu := fun W => CallsIn.inRound lr (callsIn_wide (n := 3).2 (num_of W 0))
                    have E5 : ((i : Int) == 1) = true := by simp; omega
                    have E6 : ((n : Int) + 1 == 1) = true := by simp; omega
                    have E7 : (n == 0) = true := by simp; omega
                    have HPT : Hid (i = 1 ∧ n = 0) := hpt
                    have HGA : Hid (GA sp l.length) := hga
                    have HP00 := (show Hid _ from HP0)
                    have hlog0 : (sp.log.length + 1) * 56 ≤ 140737488355328 := by have := hga.ln; omega
                    have HLO : Hid ((sp.log.length + 1) * 56 ≤ 140737488355328) := hlog0
                    clear hpt hga HP0 hlog0 h6 h7
                    gi_wp2_with (refine ⟨trivial, ?_⟩; first | (gi_at_call 6; refine hBg.mono ?_; clear hBg; rintro e w11 ⟨rfl, M11, k11, o11, l11⟩; have P11 := HP00.out.mem M11 k11; have cM1 := P11.sx.b9.cell) | (gi_at_call 5; refine (hnu _).mono ?_; rintro e w2' ⟨rfl, rfl⟩) | (gi_at_call 10; refine (CallsIn.inRound lr (callsIn_wide (n := 3).2 (paddo (c := 0) M11 (by show 0 < sp.cells.length; rw [HGA.out.c3]; omega) rfl HLO.out 1))).mono ?_; rintro e w12 ⟨rfl, M12, k12, o12, l12⟩; have P12 := P11.mem M12 k12; have cP2 := P12.sx.bP.cell; have zP2 := P12.sx.bP.frozen))
                    have P13 := P12.putp HDS.out.1 HDS.out.2 1
                    refine ⟨(((HOT.out.trans o11).trans o12).trans (KeepsOthers.setCell _ _ _)).from _, ?_, (sp.begin (l.length : Int) 0).take 3 0 (wrap64 ((ca (sp.begin (l.length : Int) 0).cells 0).2 + 1)) true, 1, ?_, fun e => ?_, ?_, .inl ⟨HPT.out.1, ?_, hfx.put hst0 0 _⟩⟩
                    · have hl1 := l11 _ _ _ HLG1.out
                      have hl2 := l12 _ _ hl1.1
                      refine ((HKR.out.trans hl1.2).trans hl2).trans (KR.of ((Keeps.refl (fun g => g = w5.heap.size + 1) w12).setCell (p := ⟨w5.heap.size + 1, 0, none⟩) (fun _ => rfl) _) (fun g e e' => (hg7 g e).2 ?_))
                      rw [e']
                      exact P12.sx.ir _ (by simp)
                    · rw [HPL.out]; exact P13
                    · rw [HPL.out] at e; omega
                    · rw [HPL.out]; exact HMM.out
                    · rw [HPL.out]; omega
                  · have hE : ((i : Int) == 1) = false ∨ (((i : Int) == 1) = true ∧ ((n : Int) + 1 == 1) = false ∧ (n == 0) = false) := by
                      by_cases h5 : i = 1
                      · exact .inr ⟨by simp; omega, by simp; omega, by simp; omega⟩
                      · exact .inl (by simp; omega)
                    have HPT : Hid (¬ (i = 1 ∧ n = 0)) := hpt
                    clear hpt
                    rcases hE with E5 | ⟨E5, E6, E7⟩
                    all_goals
                      gi_wp2
                      refine ⟨HOT.out.from _, HKR.out, sp', p', ?_, fun e => ?_, ?_, ?_⟩
                      · rw [HPL.out]; exact HP10.out
                      · rw [HPL.out] at e; omega
                      · rw [HPL.out]; exact HMM.out
                      · rw [HPL.out]
                        rcases HDD.out with ⟨h1, _, h⟩ | ⟨h1, h2⟩
                        · exact .inl ⟨h1, by omega, h⟩
                        · exact .inr ⟨fun e => by have := HPT.out; omega, h2⟩
              · have D1 : decide ((n : Int) < ((L.length - st : Nat) : Int)) = false := decide_eq_false (by omega)
                have D2 : decide (n < L.length - st) = false := decide_eq_false hnr
                clear hix hxn hxe Rw hnr
                gi_wp2
                refine wpIn_region_ks (by kernel_rfl) (by kernel_rfl) (by kernel_rfl) ?_
                repeat (go_big_quiet_step (fail))
                refine wpQuiet_nil ?_
                rintro _ ⟨u, rfl⟩
                have K9 := u.property
                clear c20 c19 c13 c14 c12 hNE
                generalize u.val = W9 at K9 ⊢
                (try simp only [Exit.then])
                have hko : KeepsOthers W W9 := ⟨K9.size, fun k o h _ => (K9.block k (Array.getElem?_eq_some_iff.1 h).1 (fun e => e)).trans h⟩
                have P9 := HP.out.new K9
                have P10 := P9.setn (n + 1)
                have c20 := P9.b3.cell
                have z20 := P9.b3.frozen
                have e1 : ((n + 1 : Nat) : Int) = (n : Int) + 1 := by omega
                rw [e1] at P10
                have cN := P10.b3.cell
                rw [e1] at cN
                have cS := P10.b1.cell
                have cP := P10.b0.cell
                have cM := P10.sx.b9.cell
                have cA := P10.sx.mp.keeps.cell bA.cell (fun e => e)
                have HP10 := (show Hid _ from P10)
                have HOT : Hid (KeepsOthers W (W9.setCell ⟨wq.heap.size + 1 + 1 + 1, 0, none⟩ (.int .i64 ((n : Int) + 1)))) := hko.trans (KeepsOthers.setCell _ _ _)
                have hne3 : ∀ g, ¬ R7 g → ¬ g = wq.heap.size + 1 + 1 + 1 := fun g hg e => hg (by rw [e]; exact HP.out.ib _ (by omega) (by omega))
                have k10 : Keeps (fun g => g = wq.heap.size + 1 + 1 + 1) W (W9.setCell ⟨wq.heap.size + 1 + 1 + 1, 0, none⟩ (.int .i64 ((n : Int) + 1))) := Keeps.setCell (S := fun g => g = wq.heap.size + 1 + 1 + 1) (K9.mono (fun _ _ e => e.elim)) (p := ⟨wq.heap.size + 1 + 1 + 1, 0, none⟩) (fun _ => rfl) _
                have HKR : Hid (KR a7 sp.log.length W (W9.setCell ⟨wq.heap.size + 1 + 1 + 1, 0, none⟩ (.int .i64 ((n : Int) + 1)))) := KR.of k10 (fun g e => hne3 g (hg7 g e).2)
                have HLG : Hid (n = 0 → (W9.setCell ⟨wq.heap.size + 1 + 1 + 1, 0, none⟩ (.int .i64 ((n : Int) + 1))).cell? ⟨mb, 1, none⟩ = some (.slice a7 sp.log.length cp7)) := fun e => k10.cell (HC.out e) (hne3 _ HP.out.sx.mp.mb.2)
                have HPL : Hid ((pre ++ [x]).length = n + 1) := by show _ = _; rw [List.length_append, List.length_singleton, ← hn.out]
                clear P9 P10 e1 hko k10 hne3 K9
                by_cases hs4 : (n : Int) + 1 = stp
                · have E4 : ((n : Int) + 1 == stp) = true := by simpa using hs4
                  have HST : Hid ((n : Int) + 1 = stp) := hs4
                  clear hs4
                  gi_wp2
                  refine ⟨HOT.out.from _, .inr ⟨rfl, sp', p', ?_, ?_, ?_⟩⟩
                  · rw [HPL.out]; exact HP10.out
                  · rw [HPL.out]; have := HST.out; omega
                  · rcases HDD.out with ⟨rfl, _, h⟩ | ⟨_, rfl, rfl⟩
                    · exact h
                    · exact hfx.next
                · have E4 : ((n : Int) + 1 == stp) = false := by simpa using hs4
                  have HMM : Hid (∀ m : Nat, 1 ≤ m → m ≤ n + 1 → (m : Int) ≠ stp) := fun m h1 h2 => by
                    by_cases h5 : m ≤ n
                    · exact HM.out m h1 h5
                    · intro e; exact hs4 (by omega)
                  clear hs4
                  by_cases hpt : i = 1 ∧ n = 0
                  · obtain ⟨h6, h7⟩ : sp' = sp ∧ p' = p := by
                      rcases HDD.out with ⟨_, h, _⟩ | ⟨_, h⟩
                      · omega
                      · exact h
                    have HP0 := HP10.out
                    rw [h6, h7] at HP0
                    obtain rfl : p = 0 := hfx.pk (by omega)
                    have hga := hfx.ga rfl
                    have hst0 : st < L.length := by have := HHR.out; have := HLT.out; omega
                    have HLG1 : Hid ((W9.setCell ⟨wq.heap.size + 1 + 1 + 1, 0, none⟩ (.int .i64 ((n : Int) + 1))).cell? ⟨mb, 1, none⟩ = some (.slice a7 sp.log.length cp7)) := HLG.out hpt.2
                    have hBg := CallsIn.inRound lr (callsIn_wide (n := 3).2 (pbegink HP0.sx.mp (l.length : Int) 0 hga.may))
                    have hnu := fun W => CallsIn.inRound lr (callsIn_wide (n := 3).2 (num_of W 0))
                    have E5 : ((i : Int) == 1) = true := by simp; omega
                    have E6 : ((n : Int) + 1 == 1) = true := by simp; omega
                    have E7 : (n == 0) = true := by simp; omega
                    have HPT : Hid (i = 1 ∧ n = 0) := hpt
                    have HGA : Hid (GA sp l.length) := hga
                    have HP00 := (show Hid _ from HP0)
                    have hlog0 : (sp.log.length + 1) * 56 ≤ 140737488355328 := by have := hga.ln; omega
                    have HLO : Hid ((sp.log.length + 1) * 56 ≤ 140737488355328) := hlog0
                    clear hpt hga HP0 hlog0 h6 h7
                    gi_wp2_with (refine ⟨trivial, ?_⟩; first | (gi_at_call 6; refine hBg.mono ?_; clear hBg; rintro e w11 ⟨rfl, M11, k11, o11, l11⟩; have P11 := HP00.out.mem M11 k11; have cM1 := P11.sx.b9.cell) | (gi_at_call 5; refine (hnu _).mono ?_; rintro e w2' ⟨rfl, rfl⟩) | (gi_at_call 10; refine (CallsIn.inRound lr (callsIn_wide (n := 3).2 (paddo (c := 0) M11 (by show 0 < sp.cells.length; rw [HGA.out.c3]; omega) rfl HLO.out 1))).mono ?_; rintro e w12 ⟨rfl, M12, k12, o12, l12⟩; have P12 := P11.mem M12 k12; have cP2 := P12.sx.bP.cell; have zP2 := P12.sx.bP.frozen))
                    have P13 := P12.putp HDS.out.1 HDS.out.2 1
                    refine ⟨(((HOT.out.trans o11).trans o12).trans (KeepsOthers.setCell _ _ _)).from _, ?_, (sp.begin (l.length : Int) 0).take 3 0 (wrap64 ((ca (sp.begin (l.length : Int) 0).cells 0).2 + 1)) true, 1, ?_, fun e => ?_, ?_, .inl ⟨HPT.out.1, ?_, hfx.put hst0 0 _⟩⟩
                    · have hl1 := l11 _ _ _ HLG1.out
                      have hl2 := l12 _ _ hl1.1
                      refine ((HKR.out.trans hl1.2).trans hl2).trans (KR.of ((Keeps.refl (fun g => g = w5.heap.size + 1) w12).setCell (p := ⟨w5.heap.size + 1, 0, none⟩) (fun _ => rfl) _) (fun g e e' => (hg7 g e).2 ?_))
                      rw [e']
                      exact P12.sx.ir _ (by simp)
                    · rw [HPL.out]; exact P13
                    · rw [HPL.out] at e; omega
                    · rw [HPL.out]; exact HMM.out
                    · rw [HPL.out]; omega
                  · have hE : ((i : Int) == 1) = false ∨ (((i : Int) == 1) = true ∧ ((n : Int) + 1 == 1) = false ∧ (n == 0) = false) := by
                      by_cases h5 : i = 1
                      · exact .inr ⟨by simp; omega, by simp; omega, by simp; omega⟩
                      · exact .inl (by simp; omega)
                    have HPT : Hid (¬ (i = 1 ∧ n = 0)) := hpt
                    clear hpt
                    rcases hE with E5 | ⟨E5, E6, E7⟩
                    all_goals
                      gi_wp2
                      refine ⟨HOT.out.from _, HKR.out, sp', p', ?_, fun e => ?_, ?_, ?_⟩
                      · rw [HPL.out]; exact HP10.out
                      · rw [HPL.out] at e; omega
                      · rw [HPL.out]; exact HMM.out
                      · rw [HPL.out]
                        rcases HDD.out with ⟨h1, _, h⟩ | ⟨h1, h2⟩
                        · exact .inl ⟨h1, by omega, h⟩
                        · exact .inr ⟨fun e => by have := HPT.out; omega, h2⟩
            · have E1 : ((ix : Int) != (mm : Int)) = true := by simpa using hxe
              have E2 : (ix != mm) = true := by simp; omega
              have HXE : Hid ((x : Nat) ≠ pre.length) := HX.out hxe
              have bR9 := bx_keeps bR HK0.out (fun e => e)
              clear hxn hxe Rw
              gi_wp2
              refine wpIn_region_ks (by kernel_rfl) (by kernel_rfl) (by kernel_rfl) ?_
              repeat (go_big_quiet_step (fail))
              refine wpQuiet_nil ?_
              rintro _ ⟨u, rfl⟩
              have K9 := u.property
              clear c20 c19 c13 c14 c12 hNE
              generalize u.val = W9 at K9 ⊢
              have hko : KeepsOthers W W9 := ⟨K9.size, fun k o h _ => (K9.block k (Array.getElem?_eq_some_iff.1 h).1 (fun e => e)).trans h⟩
              have rB9 := bx_keeps bR9 K9 (fun e => e)
              have r9 := rB9.cell
              have rz9 := rB9.frozen
              (try simp only [Exit.then])
              gi_wp2
              exact ⟨(hko.trans (KeepsOthers.setCell _ _ _)).from _, .inl ⟨rfl, pre, x, rfl, HXE.out⟩⟩
          case done =>
            rintro Dn ys W hDn rfl ⟨sp', p', hP, hc, hm, hd⟩ hK
            rw [idx_length (Nat.le_refl _)] at hP hm hd
            refine hrest2 Dn W sp' p' _ hDn hP ?_ (.inl ⟨hrw, hm⟩) hK
            rcases hd with ⟨rfl, _, h⟩ | ⟨_, rfl, rfl⟩
            · exact h
            · exact hfx.next
          case stop =>
            rintro Dn cd pre W hDn ⟨kk, hk0, hkk, rfl⟩ (⟨rfl, q, x, e1, e3⟩ | ⟨rfl, sp', p', hP, he, hF⟩) hK
            · exfalso
              have := idx_succ (N := sp.log.length - st) (k := kk - 1) (by omega)
              rw [show kk - 1 + 1 = kk by omega, e1] at this
              obtain ⟨h1, h2⟩ := List.append_inj' this rfl
              simp only [List.cons.injEq, and_true] at h2
              exact e3 (by rw [h2, h1, idx_length (by omega)])
            · rw [idx_length hkk] at hP he
              gi_wp2
              exact hrest2 Dn W sp' p' kk hDn hP hF (.inr ⟨he, hk0, by omega⟩) hK
        · obtain rfl : i = 3 := by have := hL.k3; omega
          have HLX : Hid (LX W0 bm mb w4.heap.size w5.heap.size al cl L st fm l.length R D wq sp p 3) := hL
          have c14 := hL.sx.bN.cell
          have c16 := hL.sx.bP.cell
          have c15 := fun o1 o2 => ((hL.sx.bF.alloc o1).alloc o2).cell
          have hp1 := hL.fx.p1
          have hrwA := hL.fx.rows
          obtain ⟨A, hA1⟩ : ∃ A : Nat, Hid (A = L.length - st + p) := ⟨_, rfl⟩
          have W1 : IntKind.i64.wrap (((L.length - st : Nat) : Int) + (p : Int)) = (A : Int) := by rw [IntKind.wrap_i64, hA1.out]; omega
          have HNA : Hid (sp.log.length - st = A) := by show _ = _; rw [hrwA, hA1.out]
          have HAL : Hid (A ≤ 1048577) := by show _ ≤ _; rw [hA1.out]; omega
          have hds : dsl 3 D = [{ target := .collected (D 2), args := #[] }, { target := .collected (D 1), args := #[] }, { target := .collected (D 0), args := #[] }] := rfl
          rw [hds]
          clear hL hrwA hds
          gi_wp2
          rename_i K6 hK6
          have hL := HLX.out
          have hlen7 := hL.fx.ll
          obtain ⟨w8, hw8⟩ : ∃ w8, w8 = (wq.alloc (.cells #[.int .i64 (A : Int)] 3)).alloc (.cells #[.int .i64 0] 3) := ⟨_, rfl⟩
          have z8 : w8.heap.size = wq.heap.size + 2 := by rw [hw8]; simp
          have k8 : Keeps (fun _ => False) wq w8 := by rw [hw8]; exact ((Keeps.refl _ wq).alloc _).alloc _
          have bAll : Boxed w8 wq.heap.size 3 (.int .i64 (A : Int)) := by rw [hw8]; exact (Boxed.new wq _ _).alloc _
          have bO : Boxed w8 (wq.heap.size + 1) 3 (.int .i64 ((0 : Nat) : Int)) := by
            rw [hw8]
            have := Boxed.new (wq.alloc (.cells #[.int .i64 (A : Int)] 3)) 3 (.int .i64 0)
            rwa [World.size_alloc] at this
          rw [← hw8]
          clear hw8 c14 c16 c15 W1
          have hS8 := hL.sx.more (fun g => wq.heap.size ≤ g ∧ g < wq.heap.size + 2) k8 (fun g e => ⟨e.1, by omega⟩)
          obtain ⟨R8, hR8⟩ : ∃ R8 : Nat → Prop, R8 = fun g => R g ∨ (wq.heap.size ≤ g ∧ g < wq.heap.size + 2) := ⟨_, rfl⟩
          have hRH : R8 (wq.heap.size + 1) := by rw [hR8]; exact .inr ⟨by omega, by omega⟩
          rw [← hR8] at hS8
          clear hR8
          have hb3 : ∀ g, (g = bm ∨ g = w4.heap.size ∨ g = w4.heap.size + 1 ∨ g = w4.heap.size + 1 + 1 ∨ g = w4.heap.size + 1 + 1 + 1 ∨ g = w4.heap.size + 1 + 1 + 1 + 1 ∨ g = w5.heap.size ∨ g = w5.heap.size + 1 ∨ (Value.slice al L.length cl).ownBlock = some g) → g < wq.heap.size := fun g hg => hL.sx.mp.lt (hL.sx.ir g hg)
          have hdd : ∀ j, j < 3 → W0.heap.size ≤ D j ∧ D j < wq.heap.size ∧ w8.heap[D j]? = some (.deferred (some [])) := fun j hj => by
            have h1 := hL.dd j hj
            have h2 := (Array.getElem?_eq_some_iff.1 h1.2).1
            exact ⟨(hL.dl j hj).1, h2, (k8.block _ h2 (fun e => e)).trans h1.2⟩
          have hd01 : D 0 < D 1 := (hL.dl 1 (by omega)).2 0 (by omega)
          have hd12 : D 1 < D 2 := (hL.dl 2 (by omega)).2 1 (by omega)
          have hW08 : W0.heap.size ≤ wq.heap.size := hL.sx.mp.keeps.size
          obtain ⟨a8, cp8, hlg8, hrw8, hg8⟩ := hS8.mp.log
          have hmbR := hS8.mp.mb.2
          have hmbl : mb < w8.heap.size := World.block_lt_of_cell? _ _ hlg8
          clear hL HLX k8
          have ns : ∀ g, g < w8.heap.size → g ≠ wq.heap.size + 1 → ¬ (g = wq.heap.size + 1 ∨ w8.heap.size ≤ g) := fun g h1 h2 => by omega
          have ns' : ∀ g, g < wq.heap.size → ¬ (g = wq.heap.size + 1 ∨ w8.heap.size ≤ g) := fun g h1 => by omega
          have nsR : ∀ g, g < w8.heap.size → ¬ R8 g → ¬ (g = wq.heap.size + 1 ∨ w8.heap.size ≤ g) := fun g h1 h2 => by
            rintro (e | e)
            · exact h2 (by rw [e]; exact hRH)
            · omega
          have hrest3 : ∀ (Dn : Nat) (W : World) (n : Nat), w8.heap.size ≤ Dn → CI w8 (wq.heap.size + 1) W n → n = min A 4 → W.heap[Dn]? = some (.deferred (some [])) → K6 { tmps := #[.slice a l.length cap, .int .i64 fm, .int .i64 lv, .int .i64 ag, .pointer (some ⟨w.heap.size, 0, none⟩), undef, undef, undef, .pointer (some ⟨w.heap.size + 1, 0, none⟩), .pointer (some ⟨bm, 0, none⟩), u10, u11, .pointer (some ⟨w4.heap.size, 0, none⟩), .pointer (some ⟨w4.heap.size + 1, 0, none⟩), .pointer (some ⟨w4.heap.size + 1 + 1, 0, none⟩), .pointer (some ⟨w5.heap.size, 0, none⟩), .pointer (some ⟨w5.heap.size + 1, 0, none⟩), v17, v18, v19, v20, undef, undef, undef, undef, .pointer (some ⟨wq.heap.size, 0, none⟩), .pointer (some ⟨wq.heap.size + 1, 0, none⟩), undef, undef, .pointer (some ⟨mb, 0, none⟩), .pointer (some ⟨mb, 0, none⟩), .bool false, .slice a l.length cap, .int .i64 (l.length : Int), .int .i64 (k : Int), .bool false, u36, u37, u38, u39, u40, u41, u42, u43, u44, u45, u46, u47, .pointer (some ⟨mb, 0, none⟩), .slice al L.length cl, v50, v51, v52, v53, v54, v55, v56, v57, v58, v59, v60, .pointer (some ⟨mb, 0, none⟩), .int .i64 fm, .func (.func 18) #[] #[.pointer (some ⟨w4.heap.size + 1 + 1 + 1, 0, none⟩), .pointer (some ⟨w4.heap.size + 1 + 1 + 1 + 1, 0, none⟩)], .func (.func 18) #[] #[.pointer (some ⟨w4.heap.size + 1 + 1 + 1, 0, none⟩), .pointer (some ⟨w4.heap.size + 1 + 1 + 1 + 1, 0, none⟩)], .bool false, .int .i64 lv, .int .i64 ag, .agg #[.int .i64 lv, .int .i64 ag, .int .i64 (-1)], .int .i64 ((3 : Nat) : Int), .bool false, v71, v72, v73, v74, v75, v76, undef, undef, undef, undef, undef, undef, undef, undef, undef, undef, undef, undef, undef, undef, undef, undef, undef, undef, undef, undef, undef, undef, undef, undef, undef, undef, undef, undef, undef, undef, undef, undef, undef, undef, undef, undef, undef, undef, undef, undef, undef, undef, undef, undef, undef, undef, undef, undef, undef, undef, undef, undef, v129, v130, v131, v132, v133, v134, v135, v136, v137, v138, v139, v140, .int .i64 ((L.length - st : Nat) : Int), .int .i64 (p : Int), .int .i64 (A : Int), .func (.func 18) #[] #[.pointer (some ⟨w4.heap.size + 1 + 1 + 1, 0, none⟩), .pointer (some ⟨w4.heap.size + 1 + 1 + 1 + 1, 0, none⟩)], undef, undef, undef, undef, undef, undef, undef, undef, undef, undef, undef, undef, undef, undef, undef, undef, undef, undef, undef, undef, undef, undef, undef, undef, undef, undef, undef, undef, undef, undef, undef, undef, undef], defers := [{ target := .collected Dn, args := #[] }, { target := .collected (D 2), args := #[] }, { target := .collected (D 1), args := #[] }, { target := .collected (D 0), args := #[] }] } W := by
            intro Dn W n hDn hI hn hD
            refine hK6 _ _ ?_
            clear hK6
            have zW := hI.kp.size
            have c26 := hI.ba.cell
            have c25 := hI.kp.cell bAll.cell (ns _ (by show wq.heap.size < _; omega) (by show wq.heap.size ≠ _; omega))
            have c9 := hI.kp.cell hS8.b9.cell (ns' _ (hb3 _ (.inl rfl)))
            have c12 := hI.kp.cell hS8.bL.cell (ns' _ (hb3 _ (by simp)))
            have c16 := hI.kp.cell hS8.bP.cell (ns' _ (hb3 _ (by simp)))
            have KW : Keeps (fun _ => False) W0 W := hS8.mp.keeps.trans' hI.kp (fun _ _ e => e) (fun i hi e => by omega)
            have rB := bx_keeps bR KW (fun e => e)
            have r8 := rB.cell
            have rz := rB.frozen
            have hM : MP W0 R8 W mb sp := hS8.mp.own (hI.kp.mono (fun g hg e => by obtain rfl : g = wq.heap.size + 1 := (by omega); exact ⟨by omega, hRH⟩)) (fun g hg => ⟨.inl hg, Nat.lt_of_lt_of_le (hS8.mp.lt hg) zW⟩)
            have HD3 : Hid (∀ j, j < 3 → W.heap[D j]? = some (.deferred (some []))) := fun j hj => (hI.kp.block _ (by have := (hdd j hj).2.1; omega) (ns' _ (hdd j hj).2.1)).trans (hdd j hj).2.2
            have HD4 : Hid (W.heap[Dn]? = some (.deferred (some []))) := hD
            have hmn : ∀ w, (Builtin.min_ #[3, 3] 3 #[.int .i64 (A : Int), .int .i64 4]).run Try.prog w = .ok (.int .i64 (n : Int)) w := fun w => by
              by_cases hA4 : (4 : Int) < (A : Int)
              · rw [show (n : Int) = 4 by omega]; simp [Builtin.min_, Builtin.min2, hA4]; try omega
              · rw [show (n : Int) = A by omega]; simp [Builtin.min_, Builtin.min2, hA4]; try omega
            have W2 : IntKind.i64.wrap ((L.length : Int) + (p : Int)) = (sp.log.length : Int) := by rw [IntKind.wrap_i64]; omega
            have HLB : Hid (sp.log.length * 56 ≤ 140737488355328) := by show _ ≤ _; omega
            have hy4 := HW4.out
            have hy5 := Z5.out
            have HKZ : Hid (∀ (wt : World) (v : Value) (b : Nat) (u : Value), wt.cell? ⟨b, 0, none⟩ = some u → b ≠ w.heap.size + 1 → (wt.setCell ⟨w.heap.size + 1, 0, none⟩ v).cell? ⟨b, 0, none⟩ = some u) := fun wt v b u h hb => Keeps.cell (S := fun g => g = w.heap.size + 1) ((Keeps.refl (fun g => g = w.heap.size + 1) wt).setCell (p := ⟨w.heap.size + 1, 0, none⟩) (fun _ => rfl) v) h hb
            have HNE : Hid (wq.heap.size + 1 ≠ w.heap.size + 1 ∧ wq.heap.size ≠ w.heap.size + 1 ∧ bm ≠ w.heap.size + 1 ∧ w4.heap.size ≠ w.heap.size + 1 ∧ w5.heap.size + 1 ≠ w.heap.size + 1) := ⟨by omega, by omega, by omega, by omega, by omega⟩
            clear hy4 hy5
            clear hI hn hD hrw8 hg8 hlg8 hlen7
            gi_wp2
            refine wpIn_wide.2 ?_
            go_region_held3 (fun w' => w'.cell? ⟨wq.heap.size + 1, 0, none⟩ = some (.int .i64 (n : Int)) ∧ w'.cell? ⟨wq.heap.size, 0, none⟩ = some (.int .i64 (A : Int)) ∧ w'.cell? ⟨bm, 0, none⟩ = some (.pointer (some ⟨mb, 0, none⟩)) ∧ w'.cell? ⟨w4.heap.size, 0, none⟩ = some (.slice al L.length cl) ∧ w'.cell? ⟨w5.heap.size + 1, 0, none⟩ = some (.int .i64 (p : Int))) (first | go_keep | exact ⟨HKZ.out _ _ _ _ p26 HNE.out.1, HKZ.out _ _ _ _ p25 HNE.out.2.1, HKZ.out _ _ _ _ p9 HNE.out.2.2.1, HKZ.out _ _ _ _ p12 HNE.out.2.2.2.1, HKZ.out _ _ _ _ p16 HNE.out.2.2.2.2⟩) ((go_at_call 8; refine (plog (hM.new ((Keeps.refl _ W).drew)) HLB.out).mono ?_; rintro e wt ⟨v, rfl, ov, kt0⟩; have kt : Keeps (fun _ => False) W wt := ((Keeps.refl _ W).drew).trans kt0; obtain ⟨av, cv, rfl, _, _⟩ := own_at ov rfl; have p26 := kt.cell c26 (fun e => e); have p25 := kt.cell c25 (fun e => e); have p9 := kt.cell c9 (fun e => e); have p12 := kt.cell c12 (fun e => e); have p16 := kt.cell c16 (fun e => e); have rBt := bx_keeps rB kt (fun e => e); have rt := rBt.cell; have zt := rBt.frozen))
            all_goals
              have q4 := (kt.block Dn (Array.getElem?_eq_some_iff.1 HD4.out).1 (fun e => e)).trans HD4.out
              have q3 := (kt.block (D 2) (Array.getElem?_eq_some_iff.1 (HD3.out 2 (by omega))).1 (fun e => e)).trans (HD3.out 2 (by omega))
              have q2 := (kt.block (D 1) (Array.getElem?_eq_some_iff.1 (HD3.out 1 (by omega))).1 (fun e => e)).trans (HD3.out 1 (by omega))
              have q1 := (kt.block (D 0) (Array.getElem?_eq_some_iff.1 (HD3.out 0 (by omega))).1 (fun e => e)).trans (HD3.out 0 (by omega))
              have b5 := rBt.set (.bool true)
              have hB : Keeps (fun _ => False) w (wt.setCell ⟨w.heap.size + 1, 0, none⟩ (.bool true)) := ((K0.trans KW).trans kt).setCell (p := ⟨w.heap.size + 1, 0, none⟩) (fun hh => by simp at hh; omega) _
              have h4 := (KeepsOthers.setCell wt ⟨w.heap.size + 1, 0, none⟩ (.bool true)).same Dn _ q4 rfl
              have h3 := (KeepsOthers.setCell wt ⟨w.heap.size + 1, 0, none⟩ (.bool true)).same (D 2) _ q3 rfl
              have h2 := (KeepsOthers.setCell wt ⟨w.heap.size + 1, 0, none⟩ (.bool true)).same (D 1) _ q2 rfl
              have h1 := (KeepsOthers.setCell wt ⟨w.heap.size + 1, 0, none⟩ (.bool true)).same (D 0) _ q1 rfl
              generalize wt.setCell ⟨w.heap.size + 1, 0, none⟩ (.bool true) = W3 at b5 hB h4 h3 h2 h1 ⊢
              have lo2 := hdd 2 (by omega)
              have lo1 := hdd 1 (by omega)
              have lo0 := hdd 0 (by omega)
              have e34 : D 2 ≠ Dn := by omega
              have e24 : D 1 ≠ Dn := by omega
              have e14 : D 0 ≠ Dn := by omega
              have e23 : D 1 ≠ D 2 := by omega
              have e13 : D 0 ≠ D 2 := by omega
              have e12 : D 0 ≠ D 1 := by omega
              clear q1 q2 q3 q4 p26 p25 p9 p12 p16 rt zt r8 rz c26 c25 c9 c12 c16 rBt rB kt kt0 ov hmn W2
              (try simp only [Exit.then])
              gi_wp2
              refine ⟨by simp, .inl ⟨_, _, rfl, run_takeDeferred h4, ?_⟩⟩
              have k4' := grownBy_putObj' W3 Dn (.deferred none)
              have b6 := boxed_kept b5 k4' (fun r e => by cases e; exact ⟨_, h4, rfl⟩)
              have hB4 := hB.grown k4' (fun i hi e => by cases e; omega)
              have h3a := (k4'.block (D 2) (Array.getElem?_eq_some_iff.1 h3).1 (by simpa using e34)).trans h3
              have h2a := (k4'.block (D 1) (Array.getElem?_eq_some_iff.1 h2).1 (by simpa using e24)).trans h2
              have h1a := (k4'.block (D 0) (Array.getElem?_eq_some_iff.1 h1).1 (by simpa using e14)).trans h1
              generalize W3.putObj Dn (.deferred none) = W4 at b6 hB4 h3a h2a h1a ⊢
              refine ⟨by simp, .inl ⟨_, _, rfl, run_takeDeferred h3a, ?_⟩⟩
              have k3' := grownBy_putObj' W4 (D 2) (.deferred none)
              have b7 := boxed_kept b6 k3' (fun r e => by cases e; exact ⟨_, h3a, rfl⟩)
              have hB3 := hB4.grown k3' (fun i hi e => by cases e; omega)
              have h2b := (k3'.block (D 1) (Array.getElem?_eq_some_iff.1 h2a).1 (by simpa using e23)).trans h2a
              have h1b := (k3'.block (D 0) (Array.getElem?_eq_some_iff.1 h1a).1 (by simpa using e13)).trans h1a
              generalize W4.putObj (D 2) (.deferred none) = W5 at b7 hB3 h2b h1b ⊢
              refine ⟨by simp, .inl ⟨_, _, rfl, run_takeDeferred h2b, ?_⟩⟩
              have k2' := grownBy_putObj' W5 (D 1) (.deferred none)
              have b8 := boxed_kept b7 k2' (fun r e => by cases e; exact ⟨_, h2b, rfl⟩)
              have hB2 := hB3.grown k2' (fun i hi e => by cases e; omega)
              have h1c := (k2'.block (D 0) (Array.getElem?_eq_some_iff.1 h1b).1 (by simpa using e12)).trans h1b
              generalize W5.putObj (D 1) (.deferred none) = W6 at b8 hB2 h1c ⊢
              refine ⟨by simp, .inl ⟨_, _, rfl, run_takeDeferred h1c, ?_⟩⟩
              have k1' := grownBy_putObj' W6 (D 0) (.deferred none)
              have b9 := boxed_kept b8 k1' (fun r e => by cases e; exact ⟨_, h1c, rfl⟩)
              have hB1 := hB2.grown k1' (fun i hi e => by cases e; omega)
              generalize W6.putObj (D 0) (.deferred none) = W7 at b9 hB1 ⊢
              have c9 := b9.cell
              refine ⟨.bool true, ?_, rfl, hB1.below (Nat.le_refl _) (fun _ _ e => e)⟩
              simp [results, Try.f3, go_sem, c9]
          refine wpIn_rangeFunc_ownH (α := Fin (sp.log.length - st)) rfl (by omega) (gf := 18) (lb := #[.pointer (some ⟨w4.heap.size + 1 + 1 + 1, 0, none⟩), .pointer (some ⟨w4.heap.size + 1 + 1 + 1 + 1, 0, none⟩)]) rfl trivial (enters_of Try.func18 (by kernel_rfl) rfl)
            (tail_stopsF 5 (by omega) (w4.heap.size + 1 + 1 + 1) (w4.heap.size + 1 + 1 + 1 + 1) mb fm st hst.out a8 cp8 sp.log (by omega) (KR a8 sp.log.length) (fun _ _ k => k) w8 hS8.b1.cell hS8.b2.cell hlg8 hrw8) KR.trans (KR.put (fun g e => (hg8 g e).1)) (Below.refl _ _) (fun _ => rfl)
            (fun pre W => CI w8 (wq.heap.size + 1) W pre.length ∧ pre.length ≤ 3)
            (fun cd pre W => (cd = .ret ∧ ∃ (q : List (Fin (sp.log.length - st))) (x : Fin (sp.log.length - st)), pre = q ++ [x] ∧ (x : Nat) ≠ q.length) ∨ (cd = .exit 6 ∧ CI w8 (wq.heap.size + 1) W pre.length ∧ pre.length = 4))
            (fun pre A B row hs hg hr => ⟨hs.1.kept hg (fun r e => ⟨(hr r e).1, (hr r e).2⟩), hs.2⟩)
            (fun cd pre A B row hs hg hr => hs.imp_right (fun hh => ⟨hh.1, hh.2.1.kept hg (fun r e => ⟨(hr r e).1, (hr r e).2⟩), hh.2.2⟩))
            ⟨⟨Keeps.refl _ _, bO⟩, Nat.zero_le _⟩
            (fun x av _ => ∃ ix, ix = st + (x : Nat) ∧ av = { tmps := #[.slice a l.length cap, .int .i64 fm, .int .i64 lv, .int .i64 ag, .pointer (some ⟨w.heap.size, 0, none⟩), undef, undef, undef, .pointer (some ⟨w.heap.size + 1, 0, none⟩), .pointer (some ⟨bm, 0, none⟩), u10, u11, .pointer (some ⟨w4.heap.size, 0, none⟩), .pointer (some ⟨w4.heap.size + 1, 0, none⟩), .pointer (some ⟨w4.heap.size + 1 + 1, 0, none⟩), .pointer (some ⟨w5.heap.size, 0, none⟩), .pointer (some ⟨w5.heap.size + 1, 0, none⟩), v17, v18, v19, v20, undef, undef, undef, undef, .pointer (some ⟨wq.heap.size, 0, none⟩), .pointer (some ⟨wq.heap.size + 1, 0, none⟩), .int .i64 (ix : Int), undef, .pointer (some ⟨mb, 0, none⟩), .pointer (some ⟨mb, 0, none⟩), .bool false, .slice a l.length cap, .int .i64 (l.length : Int), .int .i64 (k : Int), .bool false, u36, u37, u38, u39, u40, u41, u42, u43, u44, u45, u46, u47, .pointer (some ⟨mb, 0, none⟩), .slice al L.length cl, v50, v51, v52, v53, v54, v55, v56, v57, v58, v59, v60, .pointer (some ⟨mb, 0, none⟩), .int .i64 fm, .func (.func 18) #[] #[.pointer (some ⟨w4.heap.size + 1 + 1 + 1, 0, none⟩), .pointer (some ⟨w4.heap.size + 1 + 1 + 1 + 1, 0, none⟩)], .func (.func 18) #[] #[.pointer (some ⟨w4.heap.size + 1 + 1 + 1, 0, none⟩), .pointer (some ⟨w4.heap.size + 1 + 1 + 1 + 1, 0, none⟩)], .bool false, .int .i64 lv, .int .i64 ag, .agg #[.int .i64 lv, .int .i64 ag, .int .i64 (-1)], .int .i64 ((3 : Nat) : Int), .bool false, v71, v72, v73, v74, v75, v76, undef, undef, undef, undef, undef, undef, undef, undef, undef, undef, undef, undef, undef, undef, undef, undef, undef, undef, undef, undef, undef, undef, undef, undef, undef, undef, undef, undef, undef, undef, undef, undef, undef, undef, undef, undef, undef, undef, undef, undef, undef, undef, undef, undef, undef, undef, undef, undef, undef, undef, undef, undef, v129, v130, v131, v132, v133, v134, v135, v136, v137, v138, v139, v140, .int .i64 ((L.length - st : Nat) : Int), .int .i64 (p : Int), .int .i64 (A : Int), .func (.func 18) #[] #[.pointer (some ⟨w4.heap.size + 1 + 1 + 1, 0, none⟩), .pointer (some ⟨w4.heap.size + 1 + 1 + 1 + 1, 0, none⟩)], .int .i64 (ix : Int), .agg #[.int .i64 (ra sp.log ix).step, .int .i64 (ra sp.log ix).thread, .int .i64 (ra sp.log ix).kind, .int .i64 (ra sp.log ix).cell, .int .i64 (ra sp.log ix).seen, .int .i64 (ra sp.log ix).wrote, .bool (ra sp.log ix).done], undef, undef, undef, undef, undef, undef, undef, undef, undef, undef, undef, undef, undef, undef, undef, undef, undef, undef, undef, undef, undef, undef, undef, undef, undef, undef, undef, undef, undef, undef, undef], defers := [] })
            (fun x av _ W W' row hs hg hr => hs) ?assign ?body ?done ?stop
          case assign =>
            rintro lr pre x W K hI hK
            obtain ⟨ix, hi⟩ : ∃ ix : Nat, ix = st + (x : Nat) := ⟨_, rfl⟩
            simp only [encs, nrs, ← hi]
            have HI : Hid (ix = st + (x : Nat)) := hi
            clear hi
            gi_wp2
            exact hK _ _ ((KeepsOthers.refl _).from _) (KR.refl _ _ _) hI ⟨ix, HI.out, rfl⟩
          case done =>
            rintro Dn ys W hDn rfl ⟨hI, h3⟩ hK
            rw [idx_length (Nat.le_refl _)] at hI h3
            refine hrest3 Dn W _ hDn hI ?_ hK
            have := HNA.out
            omega
          case stop =>
            rintro Dn cd pre W hDn ⟨kk, hk0, hkk, rfl⟩ (⟨rfl, q, x, e1, e3⟩ | ⟨rfl, hI, he⟩) hK
            · exfalso
              have := idx_succ (N := sp.log.length - st) (k := kk - 1) (by omega)
              rw [show kk - 1 + 1 = kk by omega, e1] at this
              obtain ⟨h1, h2⟩ := List.append_inj' this rfl
              simp only [List.cons.injEq, and_true] at h2
              exact e3 (by rw [h2, h1, idx_length (by omega)])
            · rw [idx_length hkk] at hI he
              gi_wp2
              exact hrest3 Dn W kk hDn hI (by have := HNA.out; omega) hK
          case body =>
            rintro lr pre x av W hl ⟨rr, hrr⟩ ⟨hI, h3⟩ ⟨ix, hi, rfl⟩ hlt
            obtain ⟨n, hn⟩ : ∃ n, Hid (n = pre.length) := ⟨_, rfl⟩
            rw [← hn.out] at hI h3 hlt
            have xlt := x.2
            obtain ⟨mm, hmm⟩ : ∃ mm : Nat, Hid (mm = st + n) := ⟨_, rfl⟩
            have W1 : IntKind.i64.wrap ((st : Int) + (n : Int)) = (mm : Int) := by rw [IntKind.wrap_i64, hmm.out]; omega
            have W2 : IntKind.i64.wrap ((n : Int) + 1) = (n : Int) + 1 := by rw [IntKind.wrap_i64]; omega
            have zW := hI.kp.size
            have c26 := hI.ba.cell
            have z26 := hI.ba.frozen
            have bS := bx_keeps hS8.bS hI.kp (ns' _ (hb3 _ (by simp)))
            have c13 := bS.cell
            have KW : Keeps (fun _ => False) W0 W := hS8.mp.keeps.trans' hI.kp (fun _ _ e => e) (fun i hi e => by omega)
            have rB := bx_keeps bR KW (fun e => e)
            have r8 := rB.cell
            have rz := rB.frozen
            have HPL : Hid ((pre ++ [x]).length = n + 1) := by show _ = _; rw [List.length_append, List.length_singleton, ← hn.out]
            have HX : Hid ((ix : Int) ≠ (mm : Int) → (x : Nat) ≠ pre.length) := fun e e' => e (by rw [hi, hmm.out, e', ← hn.out])
            have HLT : Hid (n < sp.log.length - st) := hlt
            have H3 : Hid (n ≤ 3) := h3
            clear hi hlt xlt
            by_cases hxe : (ix : Int) = (mm : Int)
            · have E1 : ((ix : Int) != (mm : Int)) = false := by simpa using hxe
              have E2 : (ix != mm) = false := by simp; omega
              clear hxe
              have hI2 := hI.set (n + 1)
              have e1 : ((n + 1 : Nat) : Int) = (n : Int) + 1 := by omega
              rw [e1] at hI2
              have k1 : Keeps (fun g => g = wq.heap.size + 1 ∨ w8.heap.size ≤ g) w8 ((W.setCell ⟨wq.heap.size + 1, 0, none⟩ (.int .i64 ((n : Int) + 1))).alloc (.cells #[.int .i64 0] 3)) := hI2.kp.alloc _
              have c15 := k1.cell hS8.bF.cell (ns' _ (hb3 _ (by simp)))
              have bO2 := hI2.ba.alloc (.cells #[.int .i64 0] 3)
              clear e1 hI2
              have HBO := (show Hid _ from bO2)
              clear bO2
              gi_wp2
              have bO2 := HBO.out
              obtain ⟨wi, hwi⟩ : ∃ wi, wi = (W.setCell ⟨wq.heap.size + 1, 0, none⟩ (.int .i64 ((n : Int) + 1))).alloc (.cells #[.int .i64 0] 3) := ⟨_, rfl⟩
              have zi : wi.heap.size = W.heap.size + 1 := by rw [hwi]; simp
              have bI : Boxed wi W.heap.size 3 (.int .i64 ((0 : Nat) : Int)) := by
                rw [hwi]
                have := Boxed.new (W.setCell ⟨wq.heap.size + 1, 0, none⟩ (.int .i64 ((n : Int) + 1))) 3 (.int .i64 0)
                rwa [show (W.setCell ⟨wq.heap.size + 1, 0, none⟩ (.int .i64 ((n : Int) + 1))).heap.size = W.heap.size by simp] at this
              have hri : wi.heap[lr]? = some (.loop rr) := by
                rw [hwi]
                exact (Below.heap_alloc _ _ _ (by simp; exact (Array.getElem?_eq_some_iff.1 hrr).1)).trans ((KeepsOthers.setCell W ⟨wq.heap.size + 1, 0, none⟩ (.int .i64 ((n : Int) + 1))).same lr _ hrr rfl)
              have hoi : KeepsOthers W wi := by rw [hwi]; exact (KeepsOthers.setCell _ _ _).trans (KeepsOthers.alloc _ _)
              have kWi : Keeps (fun g => g = wq.heap.size + 1 ∨ w8.heap.size ≤ g) W wi := by rw [hwi]; exact (Keeps.setCell (S := fun g => g = wq.heap.size + 1 ∨ w8.heap.size ≤ g) (Keeps.refl _ W) (p := ⟨wq.heap.size + 1, 0, none⟩) (fun _ => .inl rfl) _).alloc _
              rw [← hwi] at k1 bO2 ⊢
              clear hwi c15 HBO
              have Zi : Hid (wi.heap.size = W.heap.size + 1) := zi
              have hnk : ∀ g, g < wi.heap.size → g ≠ W.heap.size → ¬ (g = W.heap.size ∨ wi.heap.size ≤ g) := fun g h1 h2 => by omega
              refine wpIn_rangeFunc_ownN (α := Fin (sp.log.length - st)) (l₀ := lr) (r₀ := rr) rfl hri (by omega) (gf := 18) (lb := #[.pointer (some ⟨w4.heap.size + 1 + 1 + 1, 0, none⟩), .pointer (some ⟨w4.heap.size + 1 + 1 + 1 + 1, 0, none⟩)]) rfl trivial (enters_of Try.func18 (by kernel_rfl) rfl)
                ((tail_stopsF 3 (by omega) (w4.heap.size + 1 + 1 + 1) (w4.heap.size + 1 + 1 + 1 + 1) mb fm st hst.out a8 cp8 sp.log (by omega) (KR a8 sp.log.length) (fun _ _ k => k) wi (k1.cell hS8.b1.cell (ns' _ (hb3 _ (by simp)))) (k1.cell hS8.b2.cell (ns' _ (hb3 _ (by simp)))) (k1.cell hlg8 (nsR _ hmbl hmbR)) (hrw8.keeps k1 (fun g e => nsR _ (hg8 g e).1 (hg8 g e).2))).inRound lr) KR.trans (KR.put (fun g e => by have := (hg8 g e).1; omega)) (Below.refl _ _) (fun _ => rfl)
                (fun pre' W' => CI wi W.heap.size W' pre'.length ∧ KeepsFrom w8.heap.size wi W')
                (fun _ _ _ => False)
                (fun pre A B row hs hg hr => ⟨hs.1.kept hg (fun r e => ⟨(hr r e).1, (hr r e).2⟩), ownFrom_keepsFrom (β := Unit) (Nat.le_refl _) () A B row hs.2 hg hr⟩)
                (fun cd pre A B row hs hg hr => hs)
                ⟨⟨Keeps.refl _ _, bI⟩, KeepsFrom.refl _ _⟩
                (fun y av _ => ∃ iy, iy = st + (y : Nat) ∧ av = { tmps := #[.slice a l.length cap, .int .i64 fm, .int .i64 lv, .int .i64 ag, .pointer (some ⟨w.heap.size, 0, none⟩), undef, undef, undef, .pointer (some ⟨w.heap.size + 1, 0, none⟩), .pointer (some ⟨bm, 0, none⟩), u10, u11, .pointer (some ⟨w4.heap.size, 0, none⟩), .pointer (some ⟨w4.heap.size + 1, 0, none⟩), .pointer (some ⟨w4.heap.size + 1 + 1, 0, none⟩), .pointer (some ⟨w5.heap.size, 0, none⟩), .pointer (some ⟨w5.heap.size + 1, 0, none⟩), v17, v18, v19, v20, undef, undef, undef, undef, .pointer (some ⟨wq.heap.size, 0, none⟩), .pointer (some ⟨wq.heap.size + 1, 0, none⟩), .int .i64 (ix : Int), .pointer (some ⟨W.heap.size, 0, none⟩), .pointer (some ⟨mb, 0, none⟩), .pointer (some ⟨mb, 0, none⟩), .bool false, .slice a l.length cap, .int .i64 (l.length : Int), .int .i64 (k : Int), .bool false, u36, u37, u38, u39, u40, u41, u42, u43, u44, u45, u46, u47, .pointer (some ⟨mb, 0, none⟩), .slice al L.length cl, v50, v51, v52, v53, v54, v55, v56, v57, v58, v59, v60, .pointer (some ⟨mb, 0, none⟩), .int .i64 fm, .func (.func 18) #[] #[.pointer (some ⟨w4.heap.size + 1 + 1 + 1, 0, none⟩), .pointer (some ⟨w4.heap.size + 1 + 1 + 1 + 1, 0, none⟩)], .func (.func 18) #[] #[.pointer (some ⟨w4.heap.size + 1 + 1 + 1, 0, none⟩), .pointer (some ⟨w4.heap.size + 1 + 1 + 1 + 1, 0, none⟩)], .bool false, .int .i64 lv, .int .i64 ag, .agg #[.int .i64 lv, .int .i64 ag, .int .i64 (-1)], .int .i64 ((3 : Nat) : Int), .bool false, v71, v72, v73, v74, v75, v76, undef, undef, undef, undef, undef, undef, undef, undef, undef, undef, undef, undef, undef, undef, undef, undef, undef, undef, undef, undef, undef, undef, undef, undef, undef, undef, undef, undef, undef, undef, undef, undef, undef, undef, undef, undef, undef, undef, undef, undef, undef, undef, undef, undef, undef, undef, undef, undef, undef, undef, undef, undef, v129, v130, v131, v132, v133, v134, v135, v136, v137, v138, v139, v140, .int .i64 ((L.length - st : Nat) : Int), .int .i64 (p : Int), .int .i64 (A : Int), .func (.func 18) #[] #[.pointer (some ⟨w4.heap.size + 1 + 1 + 1, 0, none⟩), .pointer (some ⟨w4.heap.size + 1 + 1 + 1 + 1, 0, none⟩)], .int .i64 (ix : Int), .agg #[.int .i64 (ra sp.log ix).step, .int .i64 (ra sp.log ix).thread, .int .i64 (ra sp.log ix).kind, .int .i64 (ra sp.log ix).cell, .int .i64 (ra sp.log ix).seen, .int .i64 (ra sp.log ix).wrote, .bool (ra sp.log ix).done], .int .i64 (ix : Int), .int .i64 (st : Int), .int .i64 (n : Int), .int .i64 (mm : Int), .bool false, .int .i64 (n : Int), .int .i64 ((n : Int) + 1), .func (.func 18) #[] #[.pointer (some ⟨w4.heap.size + 1 + 1 + 1, 0, none⟩), .pointer (some ⟨w4.heap.size + 1 + 1 + 1 + 1, 0, none⟩)], .int .i64 (iy : Int), .agg #[.int .i64 (ra sp.log iy).step, .int .i64 (ra sp.log iy).thread, .int .i64 (ra sp.log iy).kind, .int .i64 (ra sp.log iy).cell, .int .i64 (ra sp.log iy).seen, .int .i64 (ra sp.log iy).wrote, .bool (ra sp.log iy).done], undef, undef, undef, undef, undef, undef, undef, undef, undef, undef, undef, undef, undef, undef, undef, undef, undef, undef, undef, undef, undef], defers := [] })
                (fun y av _ W W' row hs hg hr => hs) ?assign4 ?body4 ?done4 ?stop4
              case assign4 =>
                rintro lr' pre' y W' K hI' hK
                obtain ⟨iy, hiy⟩ : ∃ iy : Nat, iy = st + (y : Nat) := ⟨_, rfl⟩
                simp only [encs, nrs, ← hiy]
                have HI : Hid (iy = st + (y : Nat)) := hiy
                clear hiy
                gi_wp2
                exact hK _ _ ((KeepsOthers.refl _).from _) (KR.refl _ _ _) hI' ⟨iy, HI.out, rfl⟩
              case stop4 => exact fun cd pre W _ hf => hf.elim
              case body4 =>
                rintro lr' pre' y av W' _ _ ⟨hI', hF'⟩ ⟨iy, _, rfl⟩ hlt'
                obtain ⟨q, hq⟩ : ∃ q, Hid (q = pre'.length) := ⟨_, rfl⟩
                rw [← hq.out] at hI' hlt'
                have n28 := hI'.ba.cell
                have nz := hI'.ba.frozen
                have SN := hI'.set (q + 1)
                have e1 : ((q + 1 : Nat) : Int) = (q : Int) + 1 := by omega
                rw [e1] at SN
                have HSN := (show Hid _ from SN)
                have HPL' : Hid ((pre' ++ [y]).length = q + 1) := by show _ = _; rw [List.length_append, List.length_singleton, ← hq.out]
                clear SN e1
                have W3 : IntKind.i64.wrap ((q : Int) + 1) = (q : Int) + 1 := by rw [IntKind.wrap_i64]; omega
                gi_wp2
                refine ⟨(KeepsOthers.setCell _ _ _).from _, KR.of (S := fun g => g = W.heap.size) ((Keeps.refl (fun g => g = W.heap.size) W').setCell (p := ⟨W.heap.size, 0, none⟩) (fun _ => rfl) _) (fun g e => by have := (hg8 g e).1; omega), ?_, hF'.trans ((KeepsOthers.setCell _ _ _).from _)⟩
                rw [HPL'.out]
                exact HSN.out
              case done4 =>
                rintro ys W' rfl ⟨hI', hF'⟩
                rw [idx_length (Nat.le_refl _), HNA.out] at hI'
                have n28 := hI'.ba.cell
                have kw8 : Keeps (fun g => g = wq.heap.size + 1 ∨ w8.heap.size ≤ g) w8 W' := k1.trans (hI'.kp.mono (fun i hi e => by omega))
                have c25 := kw8.cell bAll.cell (ns _ (by show wq.heap.size < _; omega) (by show wq.heap.size ≠ _; omega))
                have bO3 := bx_keeps bO2 hI'.kp (by omega)
                have c26' := bO3.cell
                have e1 : ((n + 1 : Nat) : Int) = (n : Int) + 1 := by omega
                have HCI : Hid (CI w8 (wq.heap.size + 1) W' (n + 1)) := ⟨kw8, by rw [e1]; exact bO3⟩
                have HKF : Hid (KeepsFrom w8.heap.size W W') := (hoi.from _).trans hF'
                have HKR : Hid (KR a8 sp.log.length W W') := KR.of (S := fun g => g = wq.heap.size + 1 ∨ w8.heap.size ≤ g) (kWi.trans (hI'.kp.mono (fun i hi e => by omega))) (fun g e => nsR _ (hg8 g e).1 (hg8 g e).2)
                clear hI' hF' kw8 e1 bO3
                by_cases h4 : n = 3
                · have E4 : ((n : Int) + 1 == 4) = true := by simp; omega
                  have E5 : (n == 3) = true := by simp; omega
                  have HN : Hid (n = 3) := h4
                  clear h4
                  gi_wp2
                  refine ⟨HKF.out, .inr ⟨rfl, ?_, ?_⟩⟩
                  · rw [HPL.out]; exact HCI.out
                  · rw [HPL.out, HN.out]
                · have E4 : ((n : Int) + 1 == 4) = false := by simp; omega
                  have E5 : (n == 3) = false := by simp; omega
                  have HN : Hid (n ≠ 3) := h4
                  clear h4
                  gi_wp2
                  refine ⟨HKF.out, HKR.out, ?_, ?_⟩
                  · rw [HPL.out]; exact HCI.out
                  · rw [HPL.out]; have := HN.out; have := H3.out; omega
            · have E1 : ((ix : Int) != (mm : Int)) = true := by simpa using hxe
              have E2 : (ix != mm) = true := by simp; omega
              have HXE : Hid ((x : Nat) ≠ pre.length) := HX.out hxe
              clear hxe
              gi_wp2
              exact ⟨(KeepsOthers.setCell _ _ _).from _, .inl ⟨rfl, pre, x, rfl, HXE.out⟩⟩
      gi_wp2
      all_goals (have hs := hst.out; refine ⟨?_, ?_⟩ <;> omega)
end Go.Proofs.Ytpdhjokbhofglaa
