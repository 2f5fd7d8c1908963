import Derived.Test.YtagplkgjdaojnaaTabD
namespace Go.Proofs.Ytagplkgjdaojnaa
open Go.RowKit
attribute [local go_sem] Oper.semAt_some

set_option maxHeartbeats 3200000 in
set_option maxRecDepth 1000000 in
theorem moveUp_any {w : World} {tb g mb cap : Nat} {A B : List En} {e : En} (h0 : w.cell? ⟨tb, 0, none⟩ = some (.slice (some ⟨g, 0, none⟩) (A.length + B.length + 1) cap)) (h1 : w.cell? ⟨tb, 1, none⟩ = some (.map (some mb))) (z0 : w.frozen? ⟨tb, 0, none⟩ = false)
    (ho : w.ownsRow 0 36 3 (.slice (some ⟨g, 0, none⟩) (A.length + B.length + 1) cap) (A.length + B.length + 1) (fl ecells (A ++ e :: B))) (hm : MI w mb (A.length + B.length + 1) (pl (A ++ e :: B)))
    (hd : Dis (A ++ e :: B)) (hd' : Dis (A ++ B)) (hi : ∀ x ∈ A ++ e :: B, I64 x.ob) (n1 : g ≠ tb) (n2 : mb ≠ tb) (n3 : mb ≠ g) (hn : A.length + B.length ≤ 4398046511200) :
    Calls Try.prog 39 #[.pointer (some ⟨tb, 0, none⟩), .int .i64 (A.length : Int)] w fun e w' => e = .returned (.tuple #[]) ∧ w'.cell? ⟨tb, 0, none⟩ = some (.slice (some ⟨g, 0, none⟩) (A.length + B.length) cap) ∧ w'.ownsRow 0 36 3 (.slice (some ⟨g, 0, none⟩) (A.length + B.length) cap) (A.length + B.length) (fl ecells (A ++ B)) ∧ MI w' mb (A.length + B.length) (pl (A ++ B)) ∧
      Keeps (fun i => i = tb ∨ i = g ∨ i = mb) w w' ∧ (∀ o v, o ≠ 0 → w.cell? ⟨tb, o, none⟩ = some v → w'.cell? ⟨tb, o, none⟩ = some v) ∧ (∀ o, w'.frozen? ⟨tb, o, none⟩ = w.frozen? ⟨tb, o, none⟩) := by
  have ltb := World.block_lt_of_cell? _ _ h0
  have he : (A ++ e :: B)[A.length]? = some e := by simp
  have e0 : w.cell? ⟨g, A.length * 3, none⟩ = some (.int .i64 e.ob) := (owns_en ho rfl he).r0
  have ie := hi e (by simp)
  have kd : Keeps (fun _ => False) w w.drew := (Keeps.refl _ w).drew
  have hsome : (pl (A ++ e :: B) e.ob).isSome = true := by rw [pl_of hd he]; rfl
  obtain ⟨W1, hdel, m1, k1⟩ := (hm.keep kd (fun e => e)).del ie hsome 0
  rw [Nat.add_sub_cancel, mv_start hd] at m1
  have K1 : Keeps (fun i => i = mb) w W1 := kd.trans' k1 (fun _ _ e => e.elim) (fun _ _ e => e)
  have a0 := K1.cell h0 (Ne.symm n2)
  have a1 := K1.cell h1 (Ne.symm n2)
  have a2 := K1.cell e0 (Ne.symm n3)
  have az := (K1.frozen (p := ⟨tb, 0, none⟩) ltb (Ne.symm n2)).trans z0
  have hD := delete_any (K1.owns ho (fun g' e => by cases e; exact Ne.symm n3))
  have hib : ∀ x ∈ A ++ B, I64 x.ob := fun x hx => hi x (by simp at hx ⊢; rcases hx with h | h; exact .inl h; exact .inr (.inr h))
  have HW : Hid (∀ o v, w.cell? ⟨tb, o, none⟩ = some v → W1.cell? ⟨tb, o, none⟩ = some v) := fun o v hc => K1.cell hc (Ne.symm n2)
  have HZ : Hid (∀ o, W1.frozen? ⟨tb, o, none⟩ = w.frozen? ⟨tb, o, none⟩) := fun o => K1.frozen (p := ⟨tb, o, none⟩) ltb (Ne.symm n2)
  have HM1 : Hid (MI W1 mb (A.length + B.length) (mv (A ++ B) A.length)) := m1
  have HK1 : Hid (Keeps (fun i => i = mb) w W1) := K1
  obtain ⟨obj, hob⟩ : ∃ obj, Hid (obj = e.ob) := ⟨_, rfl⟩
  rw [← hob.out] at e0 a2 hdel
  obtain ⟨p, hp⟩ : ∃ p, Hid (p = A.length) := ⟨_, rfl⟩
  obtain ⟨q, hq⟩ : ∃ q, Hid (q = A.length + B.length) := ⟨_, rfl⟩
  rw [← hq.out] at hD h0 a0 ⊢
  rw [← hp.out] at a2 e0 hD ⊢
  have hpq : p ≤ q := by rw [hp.out, hq.out]; omega
  have hpqI : (p : Int) < (q : Int) + 1 := by omega
  have hp0 : (0 : Int) ≤ (p : Int) := by omega
  have hq9 : q ≤ 4398046511200 := by rw [hq.out]; exact hn
  have hpw : (p : Int) + 1 ≤ 9223372036854775807 := by omega
  clear hm ho hi hd m1 k1 K1 ie hsome he kd hn
  go_enter Try.func39, Try.ntmps39
  go_wp2_with fail
  go_region_held3 (fun w' => w'.cell? ⟨tb, 0, none⟩ = some (.slice (some ⟨g, 0, none⟩) (q + 1) cap) ∧ w'.cell? ⟨tb, 1, none⟩ = some (.map (some mb)) ∧ w'.cell? ⟨g, p * 3, none⟩ = some (.int .i64 obj)) (go_keep) (fail)
  rename_i hHeld
  go_wp2_with ((go_at_call 41; refine hD.mono ?_; rintro e w2 ⟨rfl, ho2, k2⟩; clear hD; have b0 := k2.cell a0 (Ne.symm n1); have b1 := k2.cell a1 (Ne.symm n1); have bz := (k2.frozen (p := ⟨tb, 0, none⟩) (World.block_lt_of_cell? _ _ a0) (Ne.symm n1)).trans az))
  have c0 : (w2.setCell ⟨tb, 0, none⟩ (.slice (some ⟨g, 0, none⟩) q cap)).cell? ⟨tb, 0, none⟩ = some (.slice (some ⟨g, 0, none⟩) q cap) := World.cell?_setCell_same (h := b0) ..
  have c1 : (w2.setCell ⟨tb, 0, none⟩ (.slice (some ⟨g, 0, none⟩) q cap)).cell? ⟨tb, 1, none⟩ = some (.map (some mb)) := (World.cell?_setCell_other (h := by simp) ..).trans b1
  have kS := keeps_set w2 tb 0 (.slice (some ⟨g, 0, none⟩) q cap)
  have HO3 : Hid ((w2.setCell ⟨tb, 0, none⟩ (.slice (some ⟨g, 0, none⟩) q cap)).ownsRow 0 36 3 (.slice (some ⟨g, 0, none⟩) q cap) q (fl ecells (A ++ B))) := kS.owns ho2 (fun g' e => by cases e; exact n1)
  have HM3 : MI (w2.setCell ⟨tb, 0, none⟩ (.slice (some ⟨g, 0, none⟩) q cap)) mb q (mv (A ++ B) p) := by
    rw [hp.out, hq.out]
    exact (HM1.out.keep k2 n3).keep (keeps_set w2 tb 0 _) n2
  have HK3 : Hid (Keeps (fun i => i = tb ∨ i = g ∨ i = mb) w (w2.setCell ⟨tb, 0, none⟩ (.slice (some ⟨g, 0, none⟩) q cap))) := ((HK1.out.mono (fun _ _ e => .inr (.inr e))).trans (k2.mono (fun _ _ e => .inr (.inl e)))).trans (kS.mono (fun _ _ e => .inl e))
  have HC3 : Hid (∀ o v, o ≠ 0 → w.cell? ⟨tb, o, none⟩ = some v → (w2.setCell ⟨tb, 0, none⟩ (.slice (some ⟨g, 0, none⟩) q cap)).cell? ⟨tb, o, none⟩ = some v) := fun o v ho hc => (World.cell?_setCell_other (h := by simp <;> omega) ..).trans (k2.cell (HW.out o v hc) (Ne.symm n1))
  have HZ3 : Hid (∀ o, (w2.setCell ⟨tb, 0, none⟩ (.slice (some ⟨g, 0, none⟩) q cap)).frozen? ⟨tb, o, none⟩ = w.frozen? ⟨tb, o, none⟩) := fun o => by
    rw [World.frozen?_setCell]
    have lt1 : tb < W1.heap.size := World.block_lt_of_cell? _ _ a0
    exact (k2.frozen (p := ⟨tb, o, none⟩) lt1 (Ne.symm n1)).trans (HZ.out o)
  clear h0 h1 a0 a1 a2 az b0 b1 bz k2 kS ho2 HM1 HK1 HW HZ hdel e0 hob hHeld
  generalize w2.setCell ⟨tb, 0, none⟩ (.slice (some ⟨g, 0, none⟩) q cap) = W3 at *
  have hlAB : Hid ((A ++ B).length = q) := by rw [hq.out]; show _ = _; simp
  have ltb3 := World.block_lt_of_cell? _ _ c0
  go_loopw [4] (fun iv W => ∃ i : Nat, iv = .int .i64 (i : Int) ∧ i ≤ q ∧ MI W mb q (mv (A ++ B) i) ∧ Keeps (fun k => k = mb) W3 W) (fun iv _ => q - (intOf iv).toNat)
  case atStart => exact ⟨p, rfl, hpq, HM3, Keeps.refl _ _⟩
  case round =>
    obtain ⟨i, rfl, hiq, hM, hK⟩ := hrel
    have d0 := hK.cell c0 (Ne.symm n2)
    have d1 := hK.cell c1 (Ne.symm n2)
    have hi0 : (0 : Int) ≤ (i : Int) := by omega
    by_cases hlt : i < q
    · have hltI : (i : Int) < (q : Int) := by omega
      obtain ⟨x, hx⟩ : ∃ x, (A ++ B)[i]? = some x := ⟨(A ++ B)[i]'(by rw [hlAB.out]; exact hlt), by simp⟩
      have d2 : wr.cell? ⟨g, i * 3, none⟩ = some (.int .i64 x.ob) := (owns_en (hK.owns HO3.out (fun g' e => by cases e; exact Ne.symm n3)) rfl hx).r0
      obtain ⟨W4, hput, m4, k4⟩ := (hM.keep ((Keeps.refl (fun _ => False) wr).drew) (fun e => e)).put (hib x (List.mem_of_getElem? hx)) (v := i) (by omega) (by omega)
      rw [mv_has hd' hx, mv_step hd' hx] at m4
      simp only [if_true] at m4
      have HM4 : Hid (MI W4 mb q (mv (A ++ B) (i + 1))) := m4
      have K4 : Keeps (fun k => k = mb) wr W4 := ((Keeps.refl (fun k => k = mb) wr).drew).trans k4
      have HK4 : Hid (Keeps (fun k => k = mb) W3 W4) := hK.trans K4
      have f0 := K4.cell d0 (Ne.symm n2)
      have f1 := K4.cell d1 (Ne.symm n2)
      have f2 := K4.cell d2 (Ne.symm n3)
      obtain ⟨xo, hxo⟩ : ∃ xo, Hid (xo = x.ob) := ⟨_, rfl⟩
      rw [← hxo.out] at d2 f2 hput
      clear hM hK m4 k4 K4 hx hxo HM3
      go_wp2_with fail
      go_region_held3 (fun w' => w'.cell? ⟨tb, 0, none⟩ = some (.slice (some ⟨g, 0, none⟩) q cap) ∧ w'.cell? ⟨tb, 1, none⟩ = some (.map (some mb)) ∧ w'.cell? ⟨g, i * 3, none⟩ = some (.int .i64 xo)) (go_keep) (fail)
      go_wp2_with fail
      go_roundw
      case rel => exact ⟨i + 1, by go_num, by omega, HM4.out, HK4.out⟩
      case measure => simp [intOf]; omega
    · obtain rfl : i = q := by omega
      have HMe : Hid (MI wr mb i (pl (A ++ B))) := by
        have := hM
        rw [show i = (A ++ B).length from hlAB.out.symm, mv_end] at this
        rw [← hlAB.out]
        exact this
      have HKe : Hid (Keeps (fun k => k = mb) W3 wr) := hK
      clear hM hK hlt HM3
      go_wp2
      go_end0
      refine ⟨rfl, d0, HKe.out.owns HO3.out (fun g' e => by cases e; exact Ne.symm n3), HMe.out, HK3.out.trans (HKe.out.mono (fun _ _ e => .inr (.inr e))), fun o v ho hc => HKe.out.cell (HC3.out o v ho hc) (Ne.symm n2), fun o => (HKe.out.frozen (p := ⟨tb, o, none⟩) ltb3 (Ne.symm n2)).trans (HZ3.out o)⟩
end Go.Proofs.Ytagplkgjdaojnaa
