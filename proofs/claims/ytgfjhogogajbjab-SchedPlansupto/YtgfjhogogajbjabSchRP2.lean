import Derived.Test.YtgfjhogogajbjabSchRP
namespace Go.Proofs.Ytgfjhogogajbjab
open Go.RowKit Go.Shelf
section
variable {w w' : World} {rb : Nat} {vp ve : Value} {nt m : Nat} {z : Nat → Int} {at_ : Nat} {fin : Nat → Bool}

set_option maxHeartbeats 1600000 in
set_option maxRecDepth 1000000 in
theorem rnext_done (h : RL w rb vp ve nt m z m fin) : Calls Try.prog 28 #[.pointer (some ⟨rb, 0, none⟩)] w fun e w' => e = .returned (.tuple #[.agg #[.int .i64 0, .int .i64 0], .bool false]) ∧ Keeps (fun _ => False) w w' := by
  obtain ⟨a, cap, rfl⟩ := owns_form h.np
  have K0 : ∀ o, Keeps (fun _ => False) w (w.alloc o) := fun o => (Keeps.refl _ w).alloc o
  have c1 := fun o => (K0 o).cell h.c1 (fun e => e)
  have c0 := fun o => (K0 o).cell h.c0 (fun e => e)
  clear h
  go_enter Try.func28, Try.ntmps28
  go_wp2
  go_region
  go_wp2
  refine bodyPost_ret (v := .tuple #[.agg #[.int .i64 0, .int .i64 0], .bool false]) (by rw [results_cell_tmp rfl]; go_simp) rfl ?_
  exact ⟨rfl, (K0 _).drew⟩

/-- The document's Next's end. -/
theorem rnext_end {W : World} (h : RL W rb vp ve nt m z at_ fin) {R : Nat} {v0 v1 : Value} (hR : ¬ RB rb vp ve R) :
    RL (((W.setCell ⟨rb, 1, none⟩ (.int .i64 ((at_ : Int) + 1))).setCell ⟨R, 0, none⟩ v0).setCell ⟨R, 1, none⟩ v1) rb vp ve nt m z (at_ + 1) fin ∧
    Keeps (fun k => k = rb ∨ k = R) W (((W.setCell ⟨rb, 1, none⟩ (.int .i64 ((at_ : Int) + 1))).setCell ⟨R, 0, none⟩ v0).setCell ⟨R, 1, none⟩ v1) := by
  have hs := h.step
  have k1 : Keeps (fun k => k = rb ∨ k = R) W (W.setCell ⟨rb, 1, none⟩ (.int .i64 ((at_ : Int) + 1))) := (Keeps.refl _ W).setCell (p := ⟨rb, 1, none⟩) (fun _ => .inl rfl) _
  have k2 : Keeps (fun k => k = R) (W.setCell ⟨rb, 1, none⟩ (.int .i64 ((at_ : Int) + 1))) (((W.setCell ⟨rb, 1, none⟩ (.int .i64 ((at_ : Int) + 1))).setCell ⟨R, 0, none⟩ v0).setCell ⟨R, 1, none⟩ v1) := ((Keeps.refl (fun k => k = R) _).setCell (p := ⟨R, 0, none⟩) (fun _ => rfl) _).setCell (p := ⟨R, 1, none⟩) (fun _ => rfl) _
  exact ⟨hs.keeps k2 (fun i hi e => hR (e ▸ hi)), k1.trans (k2.mono (fun _ _ e => .inr e))⟩

set_option maxHeartbeats 3200000 in
set_option maxRecDepth 1000000 in
theorem rnext_any (h : RL w rb vp ve nt m z at_ fin) (ha : at_ < m) (hm : m ≤ 4096) (hn : nt ≤ 6) : Calls Try.prog 28 #[.pointer (some ⟨rb, 0, none⟩)] w fun e w' => e = .returned (.tuple #[.agg #[.int .i64 (at_ : Int), .int .i64 (turn (nmf nt z at_) fin)], .bool true]) ∧ RL w' rb vp ve nt m z (at_ + 1) fin ∧ Keeps (RB rb vp ve) w w' := by
  have hnm := fun w => rnamedOf w nt hn (z at_)
  have hlo : -1 ≤ nmf nt z at_ := nmz_lo nt (z at_)
  have hhi : nmf nt z at_ < nt := nmz_hi nt (z at_)
  obtain ⟨th, hth⟩ : ∃ th, Hid (th = nmf nt z at_) := ⟨_, rfl⟩
  have hth2 : nmz nt (z at_) = th := hth.out.symm
  rw [hth2] at hnm
  rw [← hth.out] at hlo hhi ⊢
  clear hth2
  obtain ⟨a, cap, rfl, hnl, hob⟩ := owns_nl h.np
  obtain ⟨g, off, rfl, hg, hcs⟩ := hnl.some (by omega)
  obtain ⟨ae, ce, rfl⟩ := owns_form h.nv
  have K0 : ∀ o, Keeps (fun _ => False) w (w.alloc o) := fun o => (Keeps.refl _ w).alloc o
  have c1 := fun o => (K0 o).cell h.c1 (fun e => e)
  have c0 := fun o => (K0 o).cell h.c0 (fun e => e)
  have c2 := fun o => (K0 o).cell h.c2 (fun e => e)
  have p3 := fun o => (K0 o).cell (hcs at_ ha) (fun e => e)
  have ha0 : (0 : Int) ≤ (at_ : Int) := by omega
  have ham : (at_ : Int) < (m : Int) := by omega
  have hamN : ¬ (m : Int) ≤ (at_ : Int) := by omega
  have hamB : decide (m ≤ at_) = false := decide_eq_false (by omega)
  have lb := h.lt
  have HP : Hid (RL w rb (.slice (some ⟨g, off, none⟩) m cap) (.slice ae nt ce) nt m z at_ fin) := h
  have hRB : ¬ RB rb (.slice (some ⟨g, off, none⟩) m cap) (.slice ae nt ce) w.heap.size := fun e => Nat.lt_irrefl _ (h.ltb e)
  have HRB : Hid (¬ RB rb (.slice (some ⟨g, off, none⟩) m cap) (.slice ae nt ce) w.heap.size) := hRB
  clear h hnl hob hcs hRB
  have hne : rb ≠ w.heap.size := Nat.ne_of_lt lb
  go_enter Try.func28, Try.ntmps28
  go_wp2
  go_region
  go_wp2
  go_region_held3 (fun w' => w'.cell? ⟨rb, 0, none⟩ = some (.slice (some ⟨g, off, none⟩) m cap) ∧ w'.cell? ⟨rb, 1, none⟩ = some (.int .i64 (at_ : Int)) ∧ w'.cell? ⟨rb, 2, none⟩ = some (.slice ae nt ce) ∧ w'.cell? ⟨g, off + at_, none⟩ = some (.int .i64 (z at_))) (go_keep) ((go_at_call 37; refine (hnm _).mono ?_; rintro e w5 ⟨rfl, hw5⟩; subst hw5))
  rename_i hheld
  clear hheld c0 c1 c2 p3
  have KW : Keeps (fun _ => False) w (w.alloc (.cells #[.int .i64 0, .int .i64 0] 81)).drew.drew := ((K0 _).drew).drew
  have d0 : (w.alloc (.cells #[.int .i64 0, .int .i64 0] 81)).drew.drew.cell? ⟨w.heap.size, 0, none⟩ = some (.int .i64 0) := by simp
  have d1 : (w.alloc (.cells #[.int .i64 0, .int .i64 0] 81)).drew.drew.cell? ⟨w.heap.size, 1, none⟩ = some (.int .i64 0) := by simp
  have y0 : (w.alloc (.cells #[.int .i64 0, .int .i64 0] 81)).drew.drew.frozen? ⟨w.heap.size, 0, none⟩ = false := by simp
  have y1 : (w.alloc (.cells #[.int .i64 0, .int .i64 0] 81)).drew.drew.frozen? ⟨w.heap.size, 1, none⟩ = false := by simp
  generalize (w.alloc (.cells #[.int .i64 0, .int .i64 0] 81)).drew.drew = W at *
  have HW : Hid (RL W rb (.slice (some ⟨g, off, none⟩) m cap) (.slice ae nt ce) nt m z at_ fin) := HP.out.new KW
  have q1 := HW.out.c1
  have q2 := HW.out.c2
  have qz := HW.out.z1
  clear K0
  by_cases hx : th = -1
  · have HT : Hid (turn th fin = th) := if_neg (fun e => e.1 hx)
    have hxb : ¬ (0 : Int) ≤ th := by omega
    have hxc : decide ((0 : Int) ≤ th) = false := decide_eq_false hxb
    clear hx
    go_wp2
    refine bodyPost_ret (v := .tuple #[.agg #[.int .i64 (at_ : Int), .int .i64 th], .bool true]) (by rw [results_cell_tmp rfl]; go_simp) rfl ?_
    obtain ⟨hP', kP⟩ := rnext_end (R := w.heap.size) (v0 := .int .i64 (at_ : Int)) (v1 := .int .i64 th) HW.out HRB.out
    exact ⟨by rw [HT.out], hP', KW.trans' kP (fun _ _ e => e.elim) (fun i hi e => by rcases e with e | e; exact .inl e; omega)⟩
  · obtain ⟨t, hte⟩ : ∃ t : Nat, th = (t : Int) := ⟨th.toNat, by omega⟩
    have htn : t < nt := by omega
    have htI : (t : Int) < (nt : Int) := by omega
    have ht0 : (0 : Int) ≤ (t : Int) := by omega
    subst hte
    obtain ⟨ge, c', hae, ct, _, _, _⟩ := HW.out.ended htn
    cases hae
    by_cases hfin : fin t = true
    · have HT : Hid (turn (t : Int) fin = -1) := if_pos ⟨hx, hfin⟩
      rw [hfin] at ct
      clear hx
      go_wp2
      refine bodyPost_ret (v := .tuple #[.agg #[.int .i64 (at_ : Int), .int .i64 (-1)], .bool true]) (by rw [results_cell_tmp rfl]; go_simp) rfl ?_
      obtain ⟨hP', kP⟩ := rnext_end (R := w.heap.size) (v0 := .int .i64 (at_ : Int)) (v1 := .int .i64 (-1)) HW.out HRB.out
      exact ⟨by rw [HT.out], hP', KW.trans' kP (fun _ _ e => e.elim) (fun i hi e => by rcases e with e | e; exact .inl e; omega)⟩
    · have hfin' : fin t = false := by simpa using hfin
      have HT : Hid (turn (t : Int) fin = (t : Int)) := if_neg (fun e => hfin e.2)
      rw [hfin'] at ct
      clear hx hfin
      go_wp2
      refine bodyPost_ret (v := .tuple #[.agg #[.int .i64 (at_ : Int), .int .i64 (t : Int)], .bool true]) (by rw [results_cell_tmp rfl]; go_simp) rfl ?_
      obtain ⟨hP', kP⟩ := rnext_end (R := w.heap.size) (v0 := .int .i64 (at_ : Int)) (v1 := .int .i64 (t : Int)) HW.out HRB.out
      exact ⟨by rw [HT.out], hP', KW.trans' kP (fun _ _ e => e.elim) (fun i hi e => by rcases e with e | e; exact .inl e; omega)⟩
end

theorem i64Info' : (Try.prog.info? 2).map (fun i => (i.zero, i.size, i.bytes)) = some (some (.int .i64 0), 1, 8) := by kernel_rfl
theorem boolInfo : (Try.prog.info? 4).map (fun i => (i.zero, i.size, i.bytes)) = some (some (.bool false), 1, 1) := by kernel_rfl
theorem underBools : Try.prog.underlying 78 = some (.slice 4) := by kernel_rfl
theorem madeBools (n : Nat) : (madeCells #[.bool false] n).toList = bools (fun _ => false) n := by
  apply List.ext_getElem?
  intro i
  by_cases hi : i < n
  · simp [madeCells, bools, hi, Nat.mod_one]
  · simp [madeCells, bools, hi]

/-- The document's New on its way. -/
structure RN (w wr : World) (rb : Nat) (vp ve : Value) (nt j : Nat) (z : Nat → Int) : Prop where
  rl : RL wr rb vp ve nt j z 0 (fun _ => false)
  lb : ∀ k, RB rb vp ve k → w.heap.size ≤ k
  kp : Keeps (fun _ => False) w wr
theorem RN.grow {w wr wb w1 : World} {rb : Nat} {vp ve vp' : Value} {nt j : Nat} {z : Nat → Int} (h : RN w wr rb vp ve nt j z) (kb : Keeps (fun _ => False) wr wb) (hg : wb.grownBy w1 vp.ownBlock) (ho : w1.ownsRow 0 2 1 vp' (j + 1) (nums z j ++ [.int .i64 (z j)])) (hat : vp'.ownBlock = vp.ownBlock ∨ vp'.ownBlock = some wb.heap.size) :
    RN w (w1.setCell ⟨rb, 0, none⟩ vp') rb vp' ve nt (j + 1) z := by
  have k1 : Keeps (fun k => vp.ownBlock = some k) wb w1 := (Keeps.refl _ wb).grown hg (fun _ _ e => e)
  have k2 : Keeps (fun k => vp.ownBlock = some k) wr w1 := kb.trans' k1 (fun _ _ e => e.elim) (fun _ _ e => e)
  have hl := h.rl.lt
  have hn1 := h.rl.n1
  have hsz := kb.size
  have hvp : ∀ g, vp'.ownBlock = some g → vp.ownBlock = some g ∨ g = wb.heap.size := fun g e => by
    rcases hat with e' | e'
    · exact .inl (e' ▸ e)
    · rw [e'] at e; cases e; exact .inr rfl
  have hrb : vp'.ownBlock ≠ some rb := fun e => by
    rcases hvp rb e with e | e
    · exact hn1 e
    · omega
  refine ⟨⟨World.cell?_setCell_same (h := k2.cell h.rl.c0 hn1) .., ?_, ?_, ?_, ?_, ?_, ?_, hrb, h.rl.n2, fun g e e' => ?_⟩, fun k hk => ?_, ?_⟩
  · rw [World.cell?_setCell_other (h := by simp)]; exact k2.cell h.rl.c1 hn1
  · rw [World.cell?_setCell_other (h := by simp)]; exact k2.cell h.rl.c2 hn1
  · rw [World.frozen?_setCell]; exact (k2.frozen (p := ⟨rb, 0, none⟩) hl hn1).trans h.rl.z0
  · rw [World.frozen?_setCell]; exact (k2.frozen (p := ⟨rb, 1, none⟩) hl hn1).trans h.rl.z1
  · rw [nums_succ]
    exact owns_same ho (fun g e => Below.heap_setCell w1 ⟨rb, 0, none⟩ _ g (fun e' => hrb (by rw [e, e'])))
  · exact owns_same (k2.owns h.rl.nv (fun g e e' => h.rl.n3 g e' e)) (fun g e => Below.heap_setCell w1 ⟨rb, 0, none⟩ _ g (fun e' => h.rl.n2 (by rw [e, e'])))
  · rcases hvp g e with e2 | e2
    · exact h.rl.n3 g e2 e'
    · have := owns_lt' h.rl.nv g e'; omega
  · rcases hk with rfl | hk | hk
    · exact h.lb _ (.inl rfl)
    · rcases hvp k hk with e | e
      · exact h.lb k (.inr (.inl e))
      · have := h.kp.size; omega
    · exact h.lb k (.inr (.inr hk))
  · exact (h.kp.trans' k2 (fun _ _ e => e) (fun i hi e => by have := h.lb i (.inr (.inl e)); omega)).setCell (p := ⟨rb, 0, none⟩) (fun hi => by have := h.lb rb (.inl rfl); simp at hi; omega) _

set_option maxRecDepth 100000 in
set_option maxHeartbeats 3200000 in
theorem rnew_any {w : World} {a : Option Addr} {m nt : Nat} {z : Nat → Int} (h : NL w a m z) (cap : Nat) (hn : 1 ≤ nt ∧ nt ≤ 6) (hm : m ≤ 4096) :
    Calls Try.prog 19 #[.int .i64 (nt : Int), .slice a m cap] w fun e w' => ∃ rb vp ve, e = .returned (.tuple #[.pointer (some ⟨rb, 0, none⟩), .int .i64 0]) ∧ RN w w' rb vp ve nt m z := by
  have hz : rfz (nt : Int) m = 0 := by unfold rfz; rw [if_neg (by omega), if_neg (by omega)]
  have hf := fun (w : World) => refusedOf w (nt : Int) a m cap
  rw [hz] at hf
  clear hz
  obtain ⟨i1, hi1, hy0, hy1, hy2⟩ := info_parts boolInfo
  obtain ⟨i0, hi0, hz0, hz1, hz2⟩ := info_parts i64Info'
  have hmk : (Instr.makeSlice 78 (.int .i64 (nt : Int)) (.int .i64 (nt : Int))).run Try.prog w = .ok (.slice (some ⟨w.heap.size, 0, none⟩) nt nt) (w.alloc (.cells (bools (fun _ => false) nt).toArray 4)) := by
    have := run_make (P := Try.prog) w 78 4 i1 _ underBools hi1 hy0 .i64 .i64 nt nt (by omega) (by omega) (by rw [hy2]; omega) (by omega)
    rw [hy1] at this
    simp only [Int.toNat_natCast, Nat.mul_one, Value.cells] at this
    rw [this, ← madeBools, Array.toArray_toList]
  have own0 : (w.alloc (.cells (bools (fun _ => false) nt).toArray 4)).ownsRow 0 4 1 (.slice (some ⟨w.heap.size, 0, none⟩) nt nt) nt (bools (fun _ => false) nt) := by
    have := World.ownsRow_lit (base := 0) (e := 4) (size := 1) w (bools (fun _ => false) nt).toArray nt (Nat.zero_le _) (by unfold maxLen; omega) (by simp [bools_len])
    simpa using this
  have HO : Hid ((w.alloc (.cells (bools (fun _ => false) nt).toArray 4)).ownsRow 0 4 1 (.slice (some ⟨w.heap.size, 0, none⟩) nt nt) nt (bools (fun _ => false) nt)) := own0
  have HNL : Hid (NL w a m z) := h
  clear own0 h
  obtain ⟨B, hB⟩ : ∃ B, Hid (B = bools (fun _ => false) nt) := ⟨_, rfl⟩
  rw [← hB.out] at hmk HO
  go_enter Try.func19, Try.ntmps19
  go_wp2_with ((go_at_call 25; refine (hf _).mono ?_; rintro e w ⟨rfl, rfl⟩))
  have e2 := heap_alloc_new (w.alloc (.cells B.toArray 4)) (.cells #[.slice none 0 0, .int .i64 0, .slice (some ⟨w.heap.size, 0, none⟩) nt nt] 80)
  rw [World.size_alloc] at e2
  have K0 : Keeps (fun _ => False) w ((w.alloc (.cells B.toArray 4)).alloc (.cells #[.slice none 0 0, .int .i64 0, .slice (some ⟨w.heap.size, 0, none⟩) nt nt] 80)) := ((Keeps.refl _ w).alloc _).alloc _
  have N0 : RN w ((w.alloc (.cells B.toArray 4)).alloc (.cells #[.slice none 0 0, .int .i64 0, .slice (some ⟨w.heap.size, 0, none⟩) nt nt] 80)) (w.heap.size + 1) (.slice none 0 0) (.slice (some ⟨w.heap.size, 0, none⟩) nt nt) nt 0 z := {
    rl := ⟨cell_cells e2 rfl, cell_cells e2 rfl, cell_cells e2 rfl, frozen_cells e2, frozen_cells e2, World.ownsRow_nil _ _ _ _, by rw [← hB.out]; exact HO.out.alloc _, by simp [Value.ownBlock], by simp [Value.ownBlock], fun g e => by cases e⟩
    lb := fun k hk => by
      rcases hk with rfl | hk | hk
      · omega
      · cases hk
      · cases hk; exact Nat.le_refl _
    kp := K0 }
  have hsz : w.heap.size + 2 = ((w.alloc (.cells B.toArray 4)).alloc (.cells #[.slice none 0 0, .int .i64 0, .slice (some ⟨w.heap.size, 0, none⟩) nt nt] 80)).heap.size := by simp
  clear e2 K0 HO hmk hf
  generalize ((w.alloc (.cells B.toArray 4)).alloc (.cells #[.slice none 0 0, .int .i64 0, .slice (some ⟨w.heap.size, 0, none⟩) nt nt] 80)) = W0 at *
  generalize hve : Value.slice (some ⟨w.heap.size, 0, none⟩) nt nt = ve at N0
  go_loopw [8] (fun i wr => ∃ (j : Nat) (vp : Value), j ≤ m ∧ i = .int .i64 (j : Int) ∧ RN w wr (w.heap.size + 1) vp ve nt j z) (fun i _ => m - (intOf i).toNat)
  case atStart => exact ⟨0, _, Nat.zero_le _, rfl, N0⟩
  case round =>
    obtain ⟨j, vp, hj, rfl, hst⟩ := hrel
    have H : Hid (RN w wr (w.heap.size + 1) vp ve nt j z) := hst
    have c0 := hst.rl.c0
    have f0 := hst.rl.z0
    have lD := hst.rl.lt
    clear N0 hsz
    by_cases hlt : j < m
    · obtain ⟨bc, oc, rfl, hbc, hcc⟩ := (HNL.out.new hst.kp).some (by omega)
      have cy := hcc j hlt
      have hltI : (j : Int) < (m : Int) := by omega
      have hj0 : (0 : Int) ≤ (j : Int) := by omega
      have aD : vp.ownBlock ≠ some (w.heap.size + 1) := hst.rl.n1
      have h63 : j + 1 ≤ maxLen := by unfold maxLen; omega
      have hb8 : (j + 1) * 8 ≤ 140737488355328 := by omega
      have HO : Hid (wr.ownsRow 0 2 1 vp j (nums z j)) := hst.rl.np
      have k1 : ∀ ob, (wr.alloc ob).drew.cell? ⟨w.heap.size + 1, 0, none⟩ = some vp := fun ob => (((Keeps.refl (fun _ => False) wr).alloc ob).drew).cell c0 (fun e => e)
      have k2 : ∀ ob, (wr.alloc ob).drew.frozen? ⟨w.heap.size + 1, 0, none⟩ = false := fun ob => ((((Keeps.refl (fun _ => False) wr).alloc ob).drew).frozen (p := ⟨w.heap.size + 1, 0, none⟩) lD (fun e => e)).trans f0
      have n1 := World.new_ne wr _ c0
      have n2 := World.new_ne wr _ cy
      simp only at n1 n2
      clear hst hcc
      go_wp2_with fail
      go_region_law ((refine step_append_lies _ (by rfl) _ _ _ (by rfl) 0 2 i0 _ 1 8 under64s hi0 hz0 hz1 hz2 rfl (by omega) vp j (nums z j) (by rfl) ((HO.out.alloc _).drew) ⟨wr.heap.size, 0, none⟩ 1 1 [.int .i64 (z j)] (by rfl) (by rfl) (World.news_of_block (cs := #[.int .i64 (z j)]) (t := 2) (fr := (0, 0)) (heap_alloc_new wr _)) (by simp [Value.oneCell']) (by omega) h63 hb8 (Nat.zero_le _) (wr.heap.size + 1) (by simp) ?_; intro gg cap1 w1 hown1 hgrow hat hlt1; have r1 := (hgrow.cell_far ⟨w.heap.size + 1, 0, none⟩ (by simp; omega) (Ne.symm aD)).trans (k1 _); have r2 := (hgrow.frozen_far ⟨w.heap.size + 1, 0, none⟩ (by simp; omega) (Ne.symm aD)).trans (k2 _)))
      all_goals
        go_simp
        go_wp2
        go_roundw
        case rel => exact ⟨j + 1, _, by omega, by go_num, H.out.grow (((Keeps.refl _ wr).alloc _).drew) hgrow hown1 (hat.imp (fun e => e.symm) (fun e => by rw [e]; simp [Value.ownBlock]))⟩
        case measure => simp [intOf]; omega
    · have hltI : ¬ (j : Int) < (m : Int) := by omega
      obtain rfl : j = m := by omega
      clear hst
      go_wp2
      refine bodyPost_ret (v := .tuple #[.pointer (some ⟨w.heap.size + 1, 0, none⟩), .int .i64 0]) (by simp [results, Try.f19, go_sem]) rfl ?_
      exact ⟨w.heap.size + 1, rfl, vp, ve, H.out⟩

set_option maxHeartbeats 1600000 in
set_option maxRecDepth 1000000 in
theorem rnew_no (w : World) (n : Int) (a : Option Addr) (m cap : Nat) (hz : rfz n m ≠ 0) :
    Calls Try.prog 19 #[.int .i64 n, .slice a m cap] w fun e w' => e = .returned (.tuple #[.pointer none, .int .i64 (rfz n m)]) ∧ w' = w := by
  have hf := fun (w : World) => refusedOf w n a m cap
  have hzb : (rfz n m != 0) = true := by simpa using hz
  generalize rfz n m = r at *
  clear hz
  go_enter Try.func19, Try.ntmps19
  go_wp2_with ((go_at_call 25; refine (hf _).mono ?_; rintro e w ⟨rfl, rfl⟩))
  refine bodyPost_ret (v := .tuple #[.pointer none, .int .i64 r]) (by simp [results, Try.f19, go_sem]) rfl ?_
  exact ⟨rfl, rfl⟩
end Go.Proofs.Ytgfjhogogajbjab
